/- Structs of layer 4 compared; the contracts of Name, of both; of span. -/
import Derived.BigQuiet
import Derived.Deep.CutBlock
import Derived.Deep.CutRange
import Derived.Deep.QuietTactic
import Derived.Deep.RegionHeld3
import Derived.Laws.IdiomStrings
import Derived.Laws.Rows
import Derived.Laws.StructEq
import Derived.Lib.Atoi
import Derived.Lib.AtoiErrMem
import Derived.Lib.CutLaws
import Derived.Lib.IndexMore
import Derived.Lib.ItoaMem
import Derived.Lib.ItoaNum
import Derived.Shelf.Bits.Mul64
import Derived.Shelf.LaysM
import Derived.Shelf.Small.Bits
import Derived.Shelf.Small.Strs
import Derived.Shelf.Small.Utf8
import Derived.Shelf.Small.Wraps
import Derived.Shelf.Strconv.Atoi
import Derived.Shelf.Strconv.Itoa0
import Derived.Shelf.Strconv.Itoa1
import Derived.Shelf.Strconv.Itoa2
import Derived.Shelf.Strconv.Itoa3
import Derived.Shelf.Strings.AsciiSet
import Derived.Shelf.Strings.Builder1
import Derived.Shelf.Strings.Builder2
import Derived.Shelf.Strings.Count
import Derived.Shelf.Strings.Cut
import Derived.Shelf.Strings.OnBuilder
import Derived.Shelf.Strings.Prefix
import Derived.Shelf.Strings.Replace
import Derived.Shelf.Strings.Runes
import Derived.Shelf.Strings.Search1
import Derived.Shelf.Strings.Search2
import Derived.Shelf.Strings.Search3
import Derived.Shelf.Strings.Shaped
import Derived.Shelf.Strings.Split
import Derived.Shelf.Strings.SplitShaped
import Derived.Shelf.Strings.Trim
import Derived.Shelf.Unicode.DecodeSlow
import Derived.Test.YtloamahbghjjgaaGreatDoorProg
import Derived.Test.YtloamahbghjjgaaGreatDoorRows
import Derived.WalkKit
import Derived.WalkLawsBesides
import Derived.WalkSmall
import Derived.WalkSpells
import Derived.Test.YtloamahbghjjgaaGreatDoorZgAA
import Derived.Test.YtloamahbghjjgaaGreatDoorZgAC
import Derived.Test.YtloamahbghjjgaaGreatDoorZgAE
import Derived.Test.YtloamahbghjjgaaGreatDoorZgAF
import Derived.Test.YtloamahbghjjgaaGreatDoorZgAG
namespace Go.Proofs.YtloamahbghjjgaaGreatDoor
open Go.RowKit

def Fl.cells (f : Fl) : Array Value := #[.string f.book, .string f.sheet, .int .i64 f.a.col, .int .i64 f.a.row, .bool f.a.fc, .bool f.a.fr, .int .i64 f.b.col, .int .i64 f.b.row, .bool f.b.fc, .bool f.b.fr, .bool f.wide]
def zeroB (r : Rf) : Bool := r.col == 0 && r.row == 0 && !r.fc && !r.fr
theorem cell_eqIn (d : Nat) (a b c e : Int) (w : World) : (Op.equalIn (d + 2) 48 (.agg #[.int .i64 a, .int .i64 b]) (.agg #[.int .i64 c, .int .i64 e])).run Tryz.prog w = .ok (a == c && b == e) w := by
  have hS : Tryz.prog.underlying 48 = some (.struct (Tryz.prog.fieldsOf 48)) := by kernel_rfl
  have hp : Tryz.prog.stoodInHeld 48 = false := by kernel_rfl
  have u1 := Tryz.underlying3
  have a1 := Tryz.isAgg3
  have z1 := Tryz.sizeOf3
  rw [show d + 2 = (d + 1) + 1 from rfl, run_equalIn_agg w (d + 1) 48 _ _ hS hp]
  simp only [Program.fieldsOf, Tryz.underlying48]
  clear hS
  go_simp
  by_cases h1 : a = c
  · by_cases h2 : b = e
    · simp [h1, h2]
    · simp [h1, h2]
  · simp [h1]
theorem rf_eqIn (d : Nat) (c r : Int) (f g : Bool) (c' r' : Int) (f' g' : Bool) (w : World) :
    (Op.equalIn (d + 3) 50 (.agg #[.int .i64 c, .int .i64 r, .bool f, .bool g]) (.agg #[.int .i64 c', .int .i64 r', .bool f', .bool g'])).run Tryz.prog w = .ok ((c == c' && r == r') && ((f == f') && (g == g'))) w := by
  have hS : Tryz.prog.underlying 50 = some (.struct (Tryz.prog.fieldsOf 50)) := by kernel_rfl
  have hp : Tryz.prog.stoodInHeld 50 = false := by kernel_rfl
  have hc := fun a b c e w => cell_eqIn d a b c e w
  have u2 := Tryz.underlying4
  have a2 := Tryz.isAgg4
  have a3 := Tryz.isAgg48
  have z2 := Tryz.sizeOf4
  have z3 := Tryz.sizeOf48
  rw [show d + 3 = (d + 2) + 1 from rfl, run_equalIn_agg w (d + 2) 50 _ _ hS hp]
  simp only [Program.fieldsOf, Tryz.underlying50]
  clear hS
  go_simp
  by_cases h1 : c = c'
  · by_cases h2 : r = r'
    · by_cases h3 : f = f'
      · by_cases h4 : g = g'
        · simp [h1, h2, h3, h4]
        · simp [h1, h2, h3, h4]
      · simp [h1, h2, h3]
    · simp [h1, h2]
  · simp [h1]
theorem rf_ne0 (c r : Int) (f g : Bool) (w : World) :
    (binOp .neq 50 (.agg #[.int .i64 c, .int .i64 r, .bool f, .bool g]) (.agg #[.int .i64 0, .int .i64 0, .bool false, .bool false])).run Tryz.prog w = .ok (.bool (!zeroB ⟨c, r, f, g⟩)) w := by
  rw [run_neq_struct, show (10000 : Nat) = 9997 + 3 from rfl, rf_eqIn]
  show Result.ok _ w = _
  unfold zeroB
  cases f <;> cases g <;> simp
set_option maxRecDepth 100000 in
set_option maxHeartbeats 4000000 in
theorem name_val (s : ByteArray) (w : World) :
    Calls Tryz.prog 110 #[.string s] w fun e w' => e = .returned (.bool (nameG s.data.toList)) ∧ Below w.heap.size w w' := by
  obtain ⟨l, hl⟩ : ∃ l, s.data.toList = l := ⟨_, rfl⟩
  rw [hl]
  have hsz : s.size = l.length := by rw [← hl]; rfl
  by_cases h0 : s.data.toList = []
  · have e1 := toL_nil s h0
    have E : nameG l = false := by rw [hl] at h0; rw [h0]; rfl
    rw [E]
    clear E
    clear h0 hl hsz
    go_enter Tryz.func110, Tryz.ntmps110
    go_wp2
    go_ret
    exact ⟨rfl, Below.refl _ _⟩
  · have e1 := toL_cons s h0
    have h1 : 1 ≤ s.size := by rcases Nat.eq_zero_or_pos s.size with h | h; exact absurd (List.eq_nil_of_length_eq_zero h) h0; exact h
    by_cases h16 : s.size ≤ 16
    · have h16i : (s.size : Int) ≤ 16 := by omega
      have h0s : 0 < s.size := by omega
      have h0i : (0 : Int) < (s.size : Int) := by omega
      have hh : l.headD 0 = s[0] := by rw [← hl]; exact head_at s h0s
      have HD := hide (fun w => digit_val s[0] w)
      cases hd : isDg s[0]
      · rw [hd] at HD
        have HL := hide (fun w => lead_name s w (by unfold maxLen; omega))
        rw [hl] at HL
        have E : nameG l = l.all inNm := by unfold nameG; rw [hh, hd, decide_eq_true (show 1 ≤ l.length by omega), decide_eq_true (show l.length ≤ 16 by omega)]; rfl
        rw [E]
        clear E hd hh
        cases ha : l.all inNm
        · obtain ⟨Q, hQ⟩ : ∃ Q : ByteArray, Q = ⟨(l.dropWhile inNm).toArray⟩ := ⟨_, rfl⟩
          have e2 := toL_cons Q (by rw [hQ]; show l.dropWhile inNm ≠ []; intro e; rw [(tw_all _ _ e).2] at ha; cases ha)
          rw [← hQ] at HL
          clear hQ ha hl hsz h0
          go_enter Tryz.func110, Tryz.ntmps110
          go_wp2_with fail
          refine (unhide HD _).mono ?_
          rintro e w1 ⟨rfl, rfl⟩
          go_wp2_with fail
          refine (unhide HL _).mono ?_
          rintro e w1 ⟨rfl, b1⟩
          have HB := hide b1
          clear b1
          go_wp2
          go_ret
          exact ⟨rfl, unhide HB⟩
        · obtain ⟨Q, hQ⟩ : ∃ Q : ByteArray, Q = ⟨(l.dropWhile inNm).toArray⟩ := ⟨_, rfl⟩
          have e2 := toL_nil Q (by rw [hQ]; exact dw_not _ _ ha)
          rw [← hQ] at HL
          clear hQ ha hl hsz h0
          go_enter Tryz.func110, Tryz.ntmps110
          go_wp2_with fail
          refine (unhide HD _).mono ?_
          rintro e w1 ⟨rfl, rfl⟩
          go_wp2_with fail
          refine (unhide HL _).mono ?_
          rintro e w1 ⟨rfl, b1⟩
          have HB := hide b1
          clear b1
          go_wp2
          go_ret
          exact ⟨rfl, unhide HB⟩
      · rw [hd] at HD
        have E : nameG l = false := by unfold nameG; rw [hh, hd]; simp
        rw [E]
        clear E
        clear hd hh hl hsz h0
        go_enter Tryz.func110, Tryz.ntmps110
        go_wp2_with fail
        refine (unhide HD _).mono ?_
        rintro e w1 ⟨rfl, rfl⟩
        go_wp2
        go_ret
        exact ⟨rfl, Below.refl _ _⟩
    · have h16i : 16 < (s.size : Int) := by omega
      have E : nameG l = false := by unfold nameG; rw [decide_eq_false (show ¬ l.length ≤ 16 by omega)]; simp
      rw [E]
      clear E
      clear hl hsz h0 h16
      go_enter Tryz.func110, Tryz.ntmps110
      go_wp2
      go_ret
      exact ⟨rfl, Below.refl _ _⟩

end Go.Proofs.YtloamahbghjjgaaGreatDoor

namespace Go.Proofs.YtloamahbghjjgaaGreatDoor
open Go.RowKit

theorem empty_l (s : ByteArray) : s.data.toList.isEmpty = (s.toList == []) := by
  rw [ByteArray.toList_eq]; cases s.data.toList <;> rfl
theorem area_one (a b : Int) : areaG a b a b = cellG a b := by
  unfold areaG areaC
  cases h : cellG a b
  · rfl
  · rw [decide_eq_true (Int.le_refl a), decide_eq_true (Int.le_refl b), show a - a + 1 = 1 by omega, show b - b + 1 = 1 by omega]; rfl
theorem goodF_mk (bk sh : ByteArray) (a b : Rf) (wd : Bool) : goodF ⟨bk, sh, a, b, wd⟩ = (((sh.toList == []) || nameG sh.data.toList) && ((bk.toList == []) || (!(sh.toList == []) && nameG bk.data.toList)) && (if wd = true then areaG a.col a.row b.col b.row else zeroB b && cellG a.col a.row)) := by
  unfold goodF
  rw [empty_l, empty_l]
  rfl

set_option maxRecDepth 100000 in
set_option maxHeartbeats 2000000 in
theorem span_wide (bk sh : ByteArray) (c1 r1 : Int) (f1 g1 : Bool) (c2 r2 : Int) (f2 g2 : Bool) (w : World) :
    Calls Tryz.prog 111 #[.agg #[.string bk, .string sh, .int .i64 c1, .int .i64 r1, .bool f1, .bool g1, .int .i64 c2, .int .i64 r2, .bool f2, .bool g2, .bool true]] w fun e w' => e = .returned (.agg #[.int .i64 c1, .int .i64 r1, .int .i64 c2, .int .i64 r2]) ∧ Below w.heap.size w w' := by
  go_enter Tryz.func111, Tryz.ntmps111
  go_wp2
  refine bodyPost_ret (results_c1 rfl _ _ _ _ _ _ rfl (cells_new2 _ _ _ _) Tryz.underlying154 rfl (by exact infoA)) rfl ?_
  exact ⟨rfl, below_al2 _ _ _⟩
set_option maxRecDepth 100000 in
set_option maxHeartbeats 2000000 in
theorem span_one (bk sh : ByteArray) (c1 r1 : Int) (f1 g1 : Bool) (c2 r2 : Int) (f2 g2 : Bool) (w : World) :
    Calls Tryz.prog 111 #[.agg #[.string bk, .string sh, .int .i64 c1, .int .i64 r1, .bool f1, .bool g1, .int .i64 c2, .int .i64 r2, .bool f2, .bool g2, .bool false]] w fun e w' => e = .returned (.agg #[.int .i64 c1, .int .i64 r1, .int .i64 c1, .int .i64 r1]) ∧ Below w.heap.size w w' := by
  go_enter Tryz.func111, Tryz.ntmps111
  go_wp2
  refine bodyPost_ret (results_c1 rfl _ _ _ _ _ _ rfl (cells_new2 _ _ _ _) Tryz.underlying154 rfl (by exact infoA)) rfl ?_
  exact ⟨rfl, below_al2 _ _ _⟩

set_option maxRecDepth 100000 in
set_option maxHeartbeats 4000000 in
theorem fullGood_val (f : Fl) (w : World) :
    Calls Tryz.prog 70 #[.agg f.cells] w fun e w' => e = .returned (.bool (goodF f)) ∧ Below w.heap.size w w' := by
  obtain ⟨bk, sh, ⟨c1, r1, f1, g1⟩, ⟨c2, r2, f2, g2⟩, wd⟩ := f
  rw [goodF_mk]
  unfold Fl.cells
  simp only []
  have HNS := hide (fun w => name_val sh w)
  have HNB := hide (fun w => name_val bk w)
  generalize nameG sh.data.toList = nS at HNS ⊢
  generalize nameG bk.data.toList = nB at HNB ⊢
  cases eS : (sh.toList == [])
  · rw [Bool.false_or, Bool.not_false, Bool.true_and]
    cases nS
    · have E : ∀ a b : Bool, (false && a && b) = false := fun _ _ => rfl
      rw [E]
      clear E
      go_enter Tryz.func70, Tryz.ntmps70
      go_upto_region 1 with fail
      have P := hide (cells_new w 52 #[.string bk, .string sh, .int .i64 c1, .int .i64 r1, .bool f1, .bool g1, .int .i64 c2, .int .i64 r2, .bool f2, .bool g2, .bool wd])
      have HB : Hid (Below w.heap.size w (w.alloc (.cells #[.string bk, .string sh, .int .i64 c1, .int .i64 r1, .bool f1, .bool g1, .int .i64 c2, .int .i64 r2, .bool f2, .bool g2, .bool wd] 52))) := hide (below_al _ _)
      generalize hW : w.alloc (.cells #[.string bk, .string sh, .int .i64 c1, .int .i64 r1, .bool f1, .bool g1, .int .i64 c2, .int .i64 r2, .bool f2, .bool g2, .bool wd] 52) = W0 at P HB ⊢
      clear hW
      obtain ⟨p_0, p_1, p_2, p_3, p_4, p_5, p_6, p_7, p_8, p_9, p_10⟩ := cells11 (unhide P)
      go_wp2_with fail
      refine (unhide HNS _).mono ?_
      rintro e wk1 ⟨rfl, bk1⟩
      replace P := hide (cells_nx (unhide P) bk1)
      replace HB := hide (below_nx (unhide HB) bk1)
      clear bk1
      clear p_0 p_1 p_2 p_3 p_4 p_5 p_6 p_7 p_8 p_9 p_10
      obtain ⟨p_0, p_1, p_2, p_3, p_4, p_5, p_6, p_7, p_8, p_9, p_10⟩ := cells11 (unhide P)
      go_wp2
      go_ret
      exact ⟨rfl, unhide HB⟩
    · rw [Bool.true_and]
      cases eB : (bk.toList == [])
      · rw [Bool.false_or]
        cases nB
        · rw [Bool.false_and]
          go_enter Tryz.func70, Tryz.ntmps70
          go_upto_region 1 with fail
          have P := hide (cells_new w 52 #[.string bk, .string sh, .int .i64 c1, .int .i64 r1, .bool f1, .bool g1, .int .i64 c2, .int .i64 r2, .bool f2, .bool g2, .bool wd])
          have HB : Hid (Below w.heap.size w (w.alloc (.cells #[.string bk, .string sh, .int .i64 c1, .int .i64 r1, .bool f1, .bool g1, .int .i64 c2, .int .i64 r2, .bool f2, .bool g2, .bool wd] 52))) := hide (below_al _ _)
          generalize hW : w.alloc (.cells #[.string bk, .string sh, .int .i64 c1, .int .i64 r1, .bool f1, .bool g1, .int .i64 c2, .int .i64 r2, .bool f2, .bool g2, .bool wd] 52) = W0 at P HB ⊢
          clear hW
          obtain ⟨p_0, p_1, p_2, p_3, p_4, p_5, p_6, p_7, p_8, p_9, p_10⟩ := cells11 (unhide P)
          go_wp2_with fail
          refine (unhide HNS _).mono ?_
          rintro e wk1 ⟨rfl, bk1⟩
          replace P := hide (cells_nx (unhide P) bk1)
          replace HB := hide (below_nx (unhide HB) bk1)
          clear bk1
          clear p_0 p_1 p_2 p_3 p_4 p_5 p_6 p_7 p_8 p_9 p_10
          obtain ⟨p_0, p_1, p_2, p_3, p_4, p_5, p_6, p_7, p_8, p_9, p_10⟩ := cells11 (unhide P)
          go_wp2_with fail
          refine (unhide HNB _).mono ?_
          rintro e wk2 ⟨rfl, bk2⟩
          replace P := hide (cells_nx (unhide P) bk2)
          replace HB := hide (below_nx (unhide HB) bk2)
          clear bk2
          clear p_0 p_1 p_2 p_3 p_4 p_5 p_6 p_7 p_8 p_9 p_10
          obtain ⟨p_0, p_1, p_2, p_3, p_4, p_5, p_6, p_7, p_8, p_9, p_10⟩ := cells11 (unhide P)
          go_wp2
          go_ret
          exact ⟨rfl, unhide HB⟩
        · rw [Bool.true_and]
          cases wd
          · have HSP := hide (fun w => span_one bk sh c1 r1 f1 g1 c2 r2 f2 g2 w)
            have HAG := hide (fun w => areaGood_val c1 r1 c1 r1 w)
            rw [area_one] at HAG
            have hq := fun w => rf_ne0 c2 r2 f2 g2 w
            rw [if_neg (by simp)]
            cases hz : zeroB ⟨c2, r2, f2, g2⟩
            · rw [hz] at hq
              have hz2 : ∀ b : Bool, (false && b) = false := fun _ => rfl
              rw [hz2]
              clear hz hz2
              go_enter Tryz.func70, Tryz.ntmps70
              go_upto_region 1 with fail
              have P := hide (cells_new w 52 #[.string bk, .string sh, .int .i64 c1, .int .i64 r1, .bool f1, .bool g1, .int .i64 c2, .int .i64 r2, .bool f2, .bool g2, .bool false])
              have HB : Hid (Below w.heap.size w (w.alloc (.cells #[.string bk, .string sh, .int .i64 c1, .int .i64 r1, .bool f1, .bool g1, .int .i64 c2, .int .i64 r2, .bool f2, .bool g2, .bool false] 52))) := hide (below_al _ _)
              generalize hW : w.alloc (.cells #[.string bk, .string sh, .int .i64 c1, .int .i64 r1, .bool f1, .bool g1, .int .i64 c2, .int .i64 r2, .bool f2, .bool g2, .bool false] 52) = W0 at P HB ⊢
              clear hW
              obtain ⟨p_0, p_1, p_2, p_3, p_4, p_5, p_6, p_7, p_8, p_9, p_10⟩ := cells11 (unhide P)
              go_wp2_with fail
              refine (unhide HNS _).mono ?_
              rintro e wk1 ⟨rfl, bk1⟩
              replace P := hide (cells_nx (unhide P) bk1)
              replace HB := hide (below_nx (unhide HB) bk1)
              clear bk1
              clear p_0 p_1 p_2 p_3 p_4 p_5 p_6 p_7 p_8 p_9 p_10
              obtain ⟨p_0, p_1, p_2, p_3, p_4, p_5, p_6, p_7, p_8, p_9, p_10⟩ := cells11 (unhide P)
              go_wp2_with fail
              refine (unhide HNB _).mono ?_
              rintro e wk2 ⟨rfl, bk2⟩
              replace P := hide (cells_nx (unhide P) bk2)
              replace HB := hide (below_nx (unhide HB) bk2)
              clear bk2
              clear p_0 p_1 p_2 p_3 p_4 p_5 p_6 p_7 p_8 p_9 p_10
              obtain ⟨p_0, p_1, p_2, p_3, p_4, p_5, p_6, p_7, p_8, p_9, p_10⟩ := cells11 (unhide P)
              go_wp2
              go_ret
              exact ⟨rfl, unhide HB⟩
            · rw [hz] at hq
              rw [Bool.true_and]
              clear hz
              generalize cellG c1 r1 = g at HAG ⊢
              go_enter Tryz.func70, Tryz.ntmps70
              go_upto_region 1 with fail
              have P := hide (cells_new w 52 #[.string bk, .string sh, .int .i64 c1, .int .i64 r1, .bool f1, .bool g1, .int .i64 c2, .int .i64 r2, .bool f2, .bool g2, .bool false])
              have HB : Hid (Below w.heap.size w (w.alloc (.cells #[.string bk, .string sh, .int .i64 c1, .int .i64 r1, .bool f1, .bool g1, .int .i64 c2, .int .i64 r2, .bool f2, .bool g2, .bool false] 52))) := hide (below_al _ _)
              generalize hW : w.alloc (.cells #[.string bk, .string sh, .int .i64 c1, .int .i64 r1, .bool f1, .bool g1, .int .i64 c2, .int .i64 r2, .bool f2, .bool g2, .bool false] 52) = W0 at P HB ⊢
              clear hW
              obtain ⟨p_0, p_1, p_2, p_3, p_4, p_5, p_6, p_7, p_8, p_9, p_10⟩ := cells11 (unhide P)
              go_wp2_with fail
              refine (unhide HNS _).mono ?_
              rintro e wk1 ⟨rfl, bk1⟩
              replace P := hide (cells_nx (unhide P) bk1)
              replace HB := hide (below_nx (unhide HB) bk1)
              clear bk1
              clear p_0 p_1 p_2 p_3 p_4 p_5 p_6 p_7 p_8 p_9 p_10
              obtain ⟨p_0, p_1, p_2, p_3, p_4, p_5, p_6, p_7, p_8, p_9, p_10⟩ := cells11 (unhide P)
              go_wp2_with fail
              refine (unhide HNB _).mono ?_
              rintro e wk2 ⟨rfl, bk2⟩
              replace P := hide (cells_nx (unhide P) bk2)
              replace HB := hide (below_nx (unhide HB) bk2)
              clear bk2
              clear p_0 p_1 p_2 p_3 p_4 p_5 p_6 p_7 p_8 p_9 p_10
              obtain ⟨p_0, p_1, p_2, p_3, p_4, p_5, p_6, p_7, p_8, p_9, p_10⟩ := cells11 (unhide P)
              go_wp2_with fail
              refine (unhide HSP _).mono ?_
              rintro e wk3 ⟨rfl, bk3⟩
              replace P := hide (cells_nx (unhide P) bk3)
              replace HB := hide (below_nx (unhide HB) bk3)
              clear bk3
              clear p_0 p_1 p_2 p_3 p_4 p_5 p_6 p_7 p_8 p_9 p_10
              go_wp2_with fail
              refine (unhide HAG _).mono ?_
              rintro e wk4 ⟨rfl, bk4⟩
              replace P := hide (cells_nx (unhide P) bk4)
              replace HB := hide (below_nx (unhide HB) bk4)
              clear bk4
              go_wp2
              go_ret
              exact ⟨rfl, unhide HB⟩
          · have HSP := hide (fun w => span_wide bk sh c1 r1 f1 g1 c2 r2 f2 g2 w)
            have HAG := hide (fun w => areaGood_val c1 r1 c2 r2 w)
            rw [if_pos rfl]
            generalize areaG c1 r1 c2 r2 = g at HAG ⊢
            go_enter Tryz.func70, Tryz.ntmps70
            go_upto_region 1 with fail
            have P := hide (cells_new w 52 #[.string bk, .string sh, .int .i64 c1, .int .i64 r1, .bool f1, .bool g1, .int .i64 c2, .int .i64 r2, .bool f2, .bool g2, .bool true])
            have HB : Hid (Below w.heap.size w (w.alloc (.cells #[.string bk, .string sh, .int .i64 c1, .int .i64 r1, .bool f1, .bool g1, .int .i64 c2, .int .i64 r2, .bool f2, .bool g2, .bool true] 52))) := hide (below_al _ _)
            generalize hW : w.alloc (.cells #[.string bk, .string sh, .int .i64 c1, .int .i64 r1, .bool f1, .bool g1, .int .i64 c2, .int .i64 r2, .bool f2, .bool g2, .bool true] 52) = W0 at P HB ⊢
            clear hW
            obtain ⟨p_0, p_1, p_2, p_3, p_4, p_5, p_6, p_7, p_8, p_9, p_10⟩ := cells11 (unhide P)
            go_wp2_with fail
            refine (unhide HNS _).mono ?_
            rintro e wk1 ⟨rfl, bk1⟩
            replace P := hide (cells_nx (unhide P) bk1)
            replace HB := hide (below_nx (unhide HB) bk1)
            clear bk1
            clear p_0 p_1 p_2 p_3 p_4 p_5 p_6 p_7 p_8 p_9 p_10
            obtain ⟨p_0, p_1, p_2, p_3, p_4, p_5, p_6, p_7, p_8, p_9, p_10⟩ := cells11 (unhide P)
            go_wp2_with fail
            refine (unhide HNB _).mono ?_
            rintro e wk2 ⟨rfl, bk2⟩
            replace P := hide (cells_nx (unhide P) bk2)
            replace HB := hide (below_nx (unhide HB) bk2)
            clear bk2
            clear p_0 p_1 p_2 p_3 p_4 p_5 p_6 p_7 p_8 p_9 p_10
            obtain ⟨p_0, p_1, p_2, p_3, p_4, p_5, p_6, p_7, p_8, p_9, p_10⟩ := cells11 (unhide P)
            go_wp2_with fail
            refine (unhide HSP _).mono ?_
            rintro e wk3 ⟨rfl, bk3⟩
            replace P := hide (cells_nx (unhide P) bk3)
            replace HB := hide (below_nx (unhide HB) bk3)
            clear bk3
            clear p_0 p_1 p_2 p_3 p_4 p_5 p_6 p_7 p_8 p_9 p_10
            go_wp2_with fail
            refine (unhide HAG _).mono ?_
            rintro e wk4 ⟨rfl, bk4⟩
            replace P := hide (cells_nx (unhide P) bk4)
            replace HB := hide (below_nx (unhide HB) bk4)
            clear bk4
            go_wp2
            go_ret
            exact ⟨rfl, unhide HB⟩
      · rw [Bool.true_or, Bool.true_and]
        cases wd
        · have HSP := hide (fun w => span_one bk sh c1 r1 f1 g1 c2 r2 f2 g2 w)
          have HAG := hide (fun w => areaGood_val c1 r1 c1 r1 w)
          rw [area_one] at HAG
          have hq := fun w => rf_ne0 c2 r2 f2 g2 w
          rw [if_neg (by simp)]
          cases hz : zeroB ⟨c2, r2, f2, g2⟩
          · rw [hz] at hq
            have hz2 : ∀ b : Bool, (false && b) = false := fun _ => rfl
            rw [hz2]
            clear hz hz2
            go_enter Tryz.func70, Tryz.ntmps70
            go_upto_region 1 with fail
            have P := hide (cells_new w 52 #[.string bk, .string sh, .int .i64 c1, .int .i64 r1, .bool f1, .bool g1, .int .i64 c2, .int .i64 r2, .bool f2, .bool g2, .bool false])
            have HB : Hid (Below w.heap.size w (w.alloc (.cells #[.string bk, .string sh, .int .i64 c1, .int .i64 r1, .bool f1, .bool g1, .int .i64 c2, .int .i64 r2, .bool f2, .bool g2, .bool false] 52))) := hide (below_al _ _)
            generalize hW : w.alloc (.cells #[.string bk, .string sh, .int .i64 c1, .int .i64 r1, .bool f1, .bool g1, .int .i64 c2, .int .i64 r2, .bool f2, .bool g2, .bool false] 52) = W0 at P HB ⊢
            clear hW
            obtain ⟨p_0, p_1, p_2, p_3, p_4, p_5, p_6, p_7, p_8, p_9, p_10⟩ := cells11 (unhide P)
            go_wp2_with fail
            refine (unhide HNS _).mono ?_
            rintro e wk1 ⟨rfl, bk1⟩
            replace P := hide (cells_nx (unhide P) bk1)
            replace HB := hide (below_nx (unhide HB) bk1)
            clear bk1
            clear p_0 p_1 p_2 p_3 p_4 p_5 p_6 p_7 p_8 p_9 p_10
            obtain ⟨p_0, p_1, p_2, p_3, p_4, p_5, p_6, p_7, p_8, p_9, p_10⟩ := cells11 (unhide P)
            go_wp2
            go_ret
            exact ⟨rfl, unhide HB⟩
          · rw [hz] at hq
            rw [Bool.true_and]
            clear hz
            generalize cellG c1 r1 = g at HAG ⊢
            go_enter Tryz.func70, Tryz.ntmps70
            go_upto_region 1 with fail
            have P := hide (cells_new w 52 #[.string bk, .string sh, .int .i64 c1, .int .i64 r1, .bool f1, .bool g1, .int .i64 c2, .int .i64 r2, .bool f2, .bool g2, .bool false])
            have HB : Hid (Below w.heap.size w (w.alloc (.cells #[.string bk, .string sh, .int .i64 c1, .int .i64 r1, .bool f1, .bool g1, .int .i64 c2, .int .i64 r2, .bool f2, .bool g2, .bool false] 52))) := hide (below_al _ _)
            generalize hW : w.alloc (.cells #[.string bk, .string sh, .int .i64 c1, .int .i64 r1, .bool f1, .bool g1, .int .i64 c2, .int .i64 r2, .bool f2, .bool g2, .bool false] 52) = W0 at P HB ⊢
            clear hW
            obtain ⟨p_0, p_1, p_2, p_3, p_4, p_5, p_6, p_7, p_8, p_9, p_10⟩ := cells11 (unhide P)
            go_wp2_with fail
            refine (unhide HNS _).mono ?_
            rintro e wk1 ⟨rfl, bk1⟩
            replace P := hide (cells_nx (unhide P) bk1)
            replace HB := hide (below_nx (unhide HB) bk1)
            clear bk1
            clear p_0 p_1 p_2 p_3 p_4 p_5 p_6 p_7 p_8 p_9 p_10
            obtain ⟨p_0, p_1, p_2, p_3, p_4, p_5, p_6, p_7, p_8, p_9, p_10⟩ := cells11 (unhide P)
            go_wp2_with fail
            refine (unhide HSP _).mono ?_
            rintro e wk2 ⟨rfl, bk2⟩
            replace P := hide (cells_nx (unhide P) bk2)
            replace HB := hide (below_nx (unhide HB) bk2)
            clear bk2
            clear p_0 p_1 p_2 p_3 p_4 p_5 p_6 p_7 p_8 p_9 p_10
            go_wp2_with fail
            refine (unhide HAG _).mono ?_
            rintro e wk3 ⟨rfl, bk3⟩
            replace P := hide (cells_nx (unhide P) bk3)
            replace HB := hide (below_nx (unhide HB) bk3)
            clear bk3
            go_wp2
            go_ret
            exact ⟨rfl, unhide HB⟩
        · have HSP := hide (fun w => span_wide bk sh c1 r1 f1 g1 c2 r2 f2 g2 w)
          have HAG := hide (fun w => areaGood_val c1 r1 c2 r2 w)
          rw [if_pos rfl]
          generalize areaG c1 r1 c2 r2 = g at HAG ⊢
          go_enter Tryz.func70, Tryz.ntmps70
          go_upto_region 1 with fail
          have P := hide (cells_new w 52 #[.string bk, .string sh, .int .i64 c1, .int .i64 r1, .bool f1, .bool g1, .int .i64 c2, .int .i64 r2, .bool f2, .bool g2, .bool true])
          have HB : Hid (Below w.heap.size w (w.alloc (.cells #[.string bk, .string sh, .int .i64 c1, .int .i64 r1, .bool f1, .bool g1, .int .i64 c2, .int .i64 r2, .bool f2, .bool g2, .bool true] 52))) := hide (below_al _ _)
          generalize hW : w.alloc (.cells #[.string bk, .string sh, .int .i64 c1, .int .i64 r1, .bool f1, .bool g1, .int .i64 c2, .int .i64 r2, .bool f2, .bool g2, .bool true] 52) = W0 at P HB ⊢
          clear hW
          obtain ⟨p_0, p_1, p_2, p_3, p_4, p_5, p_6, p_7, p_8, p_9, p_10⟩ := cells11 (unhide P)
          go_wp2_with fail
          refine (unhide HNS _).mono ?_
          rintro e wk1 ⟨rfl, bk1⟩
          replace P := hide (cells_nx (unhide P) bk1)
          replace HB := hide (below_nx (unhide HB) bk1)
          clear bk1
          clear p_0 p_1 p_2 p_3 p_4 p_5 p_6 p_7 p_8 p_9 p_10
          obtain ⟨p_0, p_1, p_2, p_3, p_4, p_5, p_6, p_7, p_8, p_9, p_10⟩ := cells11 (unhide P)
          go_wp2_with fail
          refine (unhide HSP _).mono ?_
          rintro e wk2 ⟨rfl, bk2⟩
          replace P := hide (cells_nx (unhide P) bk2)
          replace HB := hide (below_nx (unhide HB) bk2)
          clear bk2
          clear p_0 p_1 p_2 p_3 p_4 p_5 p_6 p_7 p_8 p_9 p_10
          go_wp2_with fail
          refine (unhide HAG _).mono ?_
          rintro e wk3 ⟨rfl, bk3⟩
          replace P := hide (cells_nx (unhide P) bk3)
          replace HB := hide (below_nx (unhide HB) bk3)
          clear bk3
          go_wp2
          go_ret
          exact ⟨rfl, unhide HB⟩
  · rw [Bool.true_or, Bool.true_and, Bool.not_true, Bool.false_and, Bool.or_false]
    cases eB : (bk.toList == [])
    · rw [Bool.false_and]
      go_enter Tryz.func70, Tryz.ntmps70
      go_upto_region 1 with fail
      have P := hide (cells_new w 52 #[.string bk, .string sh, .int .i64 c1, .int .i64 r1, .bool f1, .bool g1, .int .i64 c2, .int .i64 r2, .bool f2, .bool g2, .bool wd])
      have HB : Hid (Below w.heap.size w (w.alloc (.cells #[.string bk, .string sh, .int .i64 c1, .int .i64 r1, .bool f1, .bool g1, .int .i64 c2, .int .i64 r2, .bool f2, .bool g2, .bool wd] 52))) := hide (below_al _ _)
      generalize hW : w.alloc (.cells #[.string bk, .string sh, .int .i64 c1, .int .i64 r1, .bool f1, .bool g1, .int .i64 c2, .int .i64 r2, .bool f2, .bool g2, .bool wd] 52) = W0 at P HB ⊢
      clear hW
      obtain ⟨p_0, p_1, p_2, p_3, p_4, p_5, p_6, p_7, p_8, p_9, p_10⟩ := cells11 (unhide P)
      go_wp2
      go_ret
      exact ⟨rfl, unhide HB⟩
    · rw [Bool.true_and]
      cases wd
      · have HSP := hide (fun w => span_one bk sh c1 r1 f1 g1 c2 r2 f2 g2 w)
        have HAG := hide (fun w => areaGood_val c1 r1 c1 r1 w)
        rw [area_one] at HAG
        have hq := fun w => rf_ne0 c2 r2 f2 g2 w
        rw [if_neg (by simp)]
        cases hz : zeroB ⟨c2, r2, f2, g2⟩
        · rw [hz] at hq
          have hz2 : ∀ b : Bool, (false && b) = false := fun _ => rfl
          rw [hz2]
          clear hz hz2
          go_enter Tryz.func70, Tryz.ntmps70
          go_upto_region 1 with fail
          have P := hide (cells_new w 52 #[.string bk, .string sh, .int .i64 c1, .int .i64 r1, .bool f1, .bool g1, .int .i64 c2, .int .i64 r2, .bool f2, .bool g2, .bool false])
          have HB : Hid (Below w.heap.size w (w.alloc (.cells #[.string bk, .string sh, .int .i64 c1, .int .i64 r1, .bool f1, .bool g1, .int .i64 c2, .int .i64 r2, .bool f2, .bool g2, .bool false] 52))) := hide (below_al _ _)
          generalize hW : w.alloc (.cells #[.string bk, .string sh, .int .i64 c1, .int .i64 r1, .bool f1, .bool g1, .int .i64 c2, .int .i64 r2, .bool f2, .bool g2, .bool false] 52) = W0 at P HB ⊢
          clear hW
          obtain ⟨p_0, p_1, p_2, p_3, p_4, p_5, p_6, p_7, p_8, p_9, p_10⟩ := cells11 (unhide P)
          go_wp2
          go_ret
          exact ⟨rfl, unhide HB⟩
        · rw [hz] at hq
          rw [Bool.true_and]
          clear hz
          generalize cellG c1 r1 = g at HAG ⊢
          go_enter Tryz.func70, Tryz.ntmps70
          go_upto_region 1 with fail
          have P := hide (cells_new w 52 #[.string bk, .string sh, .int .i64 c1, .int .i64 r1, .bool f1, .bool g1, .int .i64 c2, .int .i64 r2, .bool f2, .bool g2, .bool false])
          have HB : Hid (Below w.heap.size w (w.alloc (.cells #[.string bk, .string sh, .int .i64 c1, .int .i64 r1, .bool f1, .bool g1, .int .i64 c2, .int .i64 r2, .bool f2, .bool g2, .bool false] 52))) := hide (below_al _ _)
          generalize hW : w.alloc (.cells #[.string bk, .string sh, .int .i64 c1, .int .i64 r1, .bool f1, .bool g1, .int .i64 c2, .int .i64 r2, .bool f2, .bool g2, .bool false] 52) = W0 at P HB ⊢
          clear hW
          obtain ⟨p_0, p_1, p_2, p_3, p_4, p_5, p_6, p_7, p_8, p_9, p_10⟩ := cells11 (unhide P)
          go_wp2_with fail
          refine (unhide HSP _).mono ?_
          rintro e wk1 ⟨rfl, bk1⟩
          replace P := hide (cells_nx (unhide P) bk1)
          replace HB := hide (below_nx (unhide HB) bk1)
          clear bk1
          clear p_0 p_1 p_2 p_3 p_4 p_5 p_6 p_7 p_8 p_9 p_10
          go_wp2_with fail
          refine (unhide HAG _).mono ?_
          rintro e wk2 ⟨rfl, bk2⟩
          replace P := hide (cells_nx (unhide P) bk2)
          replace HB := hide (below_nx (unhide HB) bk2)
          clear bk2
          go_wp2
          go_ret
          exact ⟨rfl, unhide HB⟩
      · have HSP := hide (fun w => span_wide bk sh c1 r1 f1 g1 c2 r2 f2 g2 w)
        have HAG := hide (fun w => areaGood_val c1 r1 c2 r2 w)
        rw [if_pos rfl]
        generalize areaG c1 r1 c2 r2 = g at HAG ⊢
        go_enter Tryz.func70, Tryz.ntmps70
        go_upto_region 1 with fail
        have P := hide (cells_new w 52 #[.string bk, .string sh, .int .i64 c1, .int .i64 r1, .bool f1, .bool g1, .int .i64 c2, .int .i64 r2, .bool f2, .bool g2, .bool true])
        have HB : Hid (Below w.heap.size w (w.alloc (.cells #[.string bk, .string sh, .int .i64 c1, .int .i64 r1, .bool f1, .bool g1, .int .i64 c2, .int .i64 r2, .bool f2, .bool g2, .bool true] 52))) := hide (below_al _ _)
        generalize hW : w.alloc (.cells #[.string bk, .string sh, .int .i64 c1, .int .i64 r1, .bool f1, .bool g1, .int .i64 c2, .int .i64 r2, .bool f2, .bool g2, .bool true] 52) = W0 at P HB ⊢
        clear hW
        obtain ⟨p_0, p_1, p_2, p_3, p_4, p_5, p_6, p_7, p_8, p_9, p_10⟩ := cells11 (unhide P)
        go_wp2_with fail
        refine (unhide HSP _).mono ?_
        rintro e wk1 ⟨rfl, bk1⟩
        replace P := hide (cells_nx (unhide P) bk1)
        replace HB := hide (below_nx (unhide HB) bk1)
        clear bk1
        clear p_0 p_1 p_2 p_3 p_4 p_5 p_6 p_7 p_8 p_9 p_10
        go_wp2_with fail
        refine (unhide HAG _).mono ?_
        rintro e wk2 ⟨rfl, bk2⟩
        replace P := hide (cells_nx (unhide P) bk2)
        replace HB := hide (below_nx (unhide HB) bk2)
        clear bk2
        go_wp2
        go_ret
        exact ⟨rfl, unhide HB⟩
end Go.Proofs.YtloamahbghjjgaaGreatDoor

namespace Go.Proofs.YtloamahbghjjgaaGreatDoor
open Go.RowKit

end Go.Proofs.YtloamahbghjjgaaGreatDoor
