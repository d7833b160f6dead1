/- The contracts of the reference's AsBool, AsNum, of layer 3. -/
import Derived.BigQuiet
import Derived.BigRegion
import Derived.Deep.CutBlock
import Derived.Deep.CutRange
import Derived.Deep.DeepFit
import Derived.Deep.QuietTactic
import Derived.Laws.Bits64b
import Derived.Laws.IdiomStrings
import Derived.Laws.Rows
import Derived.Lib.BitFns
import Derived.Lib.IndexBytes
import Derived.Lib.ItoaMem
import Derived.Lib.ItoaNum
import Derived.Lib.Walk
import Derived.Shelf.Bits.Mul64
import Derived.Shelf.LaysM
import Derived.Shelf.Small.Bits
import Derived.Shelf.Small.Strs
import Derived.Shelf.Small.Wraps
import Derived.Shelf.Strconv.Itoa0
import Derived.Shelf.Strconv.Itoa1
import Derived.Shelf.Strconv.Itoa2
import Derived.Shelf.Strings.AsciiSet
import Derived.Shelf.Strings.Cut
import Derived.Shelf.Strings.Prefix
import Derived.Shelf.Strings.Search1
import Derived.Shelf.Strings.Search2
import Derived.Shelf.Strings.Shaped
import Derived.Shelf.Strings.Trim
import Derived.Test.YtbeijnflfmjgfaaGreatDoorProg
import Derived.Test.YtbeijnflfmjgfaaGreatDoorRows
import Derived.WalkKit
import Derived.WalkLawsBesides
import Derived.WalkSmall
import Derived.WalkSpells
import Derived.Test.YtbeijnflfmjgfaaGreatDoorZnAA
import Derived.Test.YtbeijnflfmjgfaaGreatDoorZnAB
import Derived.Test.YtbeijnflfmjgfaaGreatDoorZnAC
import Derived.Test.YtbeijnflfmjgfaaGreatDoorZnAD
import Derived.Test.YtbeijnflfmjgfaaGreatDoorZnAE
import Derived.Test.YtbeijnflfmjgfaaGreatDoorZnAF
import Derived.Test.YtbeijnflfmjgfaaGreatDoorZnAG
namespace Go.Proofs.YtbeijnflfmjgfaaGreatDoor
open Go.RowKit

def asNumV (u : Vl) : Int × Int :=
  if u.kind = 1 then (u.num, 0) else if u.kind = 2 then (if ((parseR (bareV u.text).data.toList).2 != 0) = true then (0, 3) else ((parseR (bareV u.text).data.toList).1, 0))
    else if u.kind = 3 then (if u.tr = true then 10000 else 0, 0) else if u.kind = 4 then (0, u.fail) else (0, 0)
theorem pair_n {k k' : IntKind} {r : Int × Int} {a b : Int} (h : r = (a, b)) : Ending.returned (.tuple #[.int k a, .int k' b]) = .returned (.tuple #[.int k r.1, .int k' r.2]) := by rw [h]
theorem sound_size2 (v : Vl) (h : v.text.size ≤ 1000) : (vSound v).text.size ≤ 1000 := by
  unfold vSound
  split
  · exact h
  · show noText.size ≤ 1000; decide
theorem good_e3 : vGood (vE 3) = true := by decide +kernel
theorem sound_idem (v : Vl) : vSound (vSound v) = vSound v := by
  by_cases h : vGood v = true
  · have e : vSound v = v := by unfold vSound; rw [if_pos h]
    rw [e, e]
  · have e : vSound v = vE 3 := by unfold vSound; rw [if_neg h]
    rw [e]; unfold vSound; rw [if_pos good_e3]
theorem dl_le (l : List UInt8) : (dl l).length ≤ l.length := by unfold dl; exact (List.dropWhile_sublist _).length_le
theorem bare_size (s : ByteArray) : (bareV s).size ≤ s.size := by
  show (dl (dl s.data.toList).reverse).reverse.toArray.size ≤ _
  rw [List.size_toArray, List.length_reverse]
  have h1 := dl_le (dl s.data.toList).reverse
  rw [List.length_reverse] at h1
  have h2 := dl_le s.data.toList
  have h3 : s.data.toList.length = s.size := rfl
  omega

set_option maxRecDepth 100000 in
set_option maxHeartbeats 4000000 in
theorem asnum_ref (v : Vl) (w : World) (hs : v.text.size ≤ 1000) :
    Calls Tryz.prog 42 #[.agg v.cells] w fun e w' => e = .returned (.tuple #[.int .i64 (asNumV (vSound v)).1, .int .i64 (asNumV (vSound v)).2]) ∧ Below w.heap.size w w' := by
  obtain ⟨u, hu⟩ : ∃ u, vSound v = u := ⟨_, rfl⟩
  have HS := hide (fun w => sound_ref v w (by omega))
  have HTX : Hid (u.text.size ≤ 1000) := hide (by rw [← hu]; exact sound_size2 v hs)
  have HSS : Hid (vSound u = u) := hide (by rw [← hu]; exact sound_idem v)
  rw [hu] at HS ⊢
  clear hu
  unfold Vl.cells at HS ⊢
  cases h1 : (u.kind == 1)
  · have n1 : u.kind ≠ 1 := by rw [beq_eq_false_iff_ne] at h1; exact h1
    cases h2 : (u.kind == 2)
    · have n2 : u.kind ≠ 2 := by rw [beq_eq_false_iff_ne] at h2; exact h2
      cases h3 : (u.kind == 3)
      · have n3 : u.kind ≠ 3 := by rw [beq_eq_false_iff_ne] at h3; exact h3
        cases h4 : (u.kind == 4)
        · have n4 : u.kind ≠ 4 := by rw [beq_eq_false_iff_ne] at h4; exact h4
          have E : Hid (asNumV u = (0, 0)) := hide (by unfold asNumV; rw [if_neg n1, if_neg n2, if_neg n3, if_neg n4])
          clear n1 n2 n3 n4
          go_enter Tryz.func42, Tryz.ntmps42
          go_wp2_with fail
          refine (unhide HS _).mono ?_
          rintro e w1 ⟨rfl, b1⟩
          have hf := five_below (five_new w 29 (.int .i64 v.kind) (.int .i64 v.num) (.string v.text) (.bool v.tr) (.int .i64 v.fail)) b1 (by simp)
          have HB := hide (below_five ((below_al w (.cells #[.int .i64 v.kind, .int .i64 v.num, .string v.text, .bool v.tr, .int .i64 v.fail] 29)).trans (b1.mono (by simp))) (Nat.le_refl _) (.int .i64 u.kind) (.int .i64 u.num) (.string u.text) (.bool u.tr) (.int .i64 u.fail))
          have HF := hide (five_set hf (.int .i64 u.kind) (.int .i64 u.num) (.string u.text) (.bool u.tr) (.int .i64 u.fail))
          obtain ⟨x0, c0⟩ := five_c hf 0 (by omega)
          obtain ⟨x1, c1⟩ := five_c hf 1 (by omega)
          obtain ⟨x2, c2⟩ := five_c hf 2 (by omega)
          obtain ⟨x3, c3⟩ := five_c hf 3 (by omega)
          obtain ⟨x4, c4⟩ := five_c hf 4 (by omega)
          have f0 := five_f hf 0
          have f1 := five_f hf 1
          have f2 := five_f hf 2
          have f3 := five_f hf 3
          have f4 := five_f hf 4
          clear hf b1
          go_wp2
          go_ret2
          exact ⟨pair_n (unhide E), unhide HB⟩
        · have k4 : u.kind = 4 := by rw [beq_iff_eq] at h4; exact h4
          have E : Hid (asNumV u = (0, u.fail)) := hide (by unfold asNumV; rw [if_neg n1, if_neg n2, if_neg n3, if_pos k4])
          clear n1 n2 n3 k4
          go_enter Tryz.func42, Tryz.ntmps42
          go_wp2_with fail
          refine (unhide HS _).mono ?_
          rintro e w1 ⟨rfl, b1⟩
          have hf := five_below (five_new w 29 (.int .i64 v.kind) (.int .i64 v.num) (.string v.text) (.bool v.tr) (.int .i64 v.fail)) b1 (by simp)
          have HB := hide (below_five ((below_al w (.cells #[.int .i64 v.kind, .int .i64 v.num, .string v.text, .bool v.tr, .int .i64 v.fail] 29)).trans (b1.mono (by simp))) (Nat.le_refl _) (.int .i64 u.kind) (.int .i64 u.num) (.string u.text) (.bool u.tr) (.int .i64 u.fail))
          have HF := hide (five_set hf (.int .i64 u.kind) (.int .i64 u.num) (.string u.text) (.bool u.tr) (.int .i64 u.fail))
          obtain ⟨x0, c0⟩ := five_c hf 0 (by omega)
          obtain ⟨x1, c1⟩ := five_c hf 1 (by omega)
          obtain ⟨x2, c2⟩ := five_c hf 2 (by omega)
          obtain ⟨x3, c3⟩ := five_c hf 3 (by omega)
          obtain ⟨x4, c4⟩ := five_c hf 4 (by omega)
          have f0 := five_f hf 0
          have f1 := five_f hf 1
          have f2 := five_f hf 2
          have f3 := five_f hf 3
          have f4 := five_f hf 4
          clear hf b1
          go_wp2
          go_region
          go_wp2
          go_ret2
          exact ⟨pair_n (unhide E), (unhide HB).drew⟩
      · have k3 : u.kind = 3 := by rw [beq_iff_eq] at h3; exact h3
        have E : Hid (asNumV u = (if u.tr = true then 10000 else 0, 0)) := hide (by unfold asNumV; rw [if_neg n1, if_neg n2, if_pos k3])
        clear n1 n2 k3
        cases hb : u.tr
        · rw [hb] at E
          go_enter Tryz.func42, Tryz.ntmps42
          go_wp2_with fail
          refine (unhide HS _).mono ?_
          rintro e w1 ⟨rfl, b1⟩
          have hf := five_below (five_new w 29 (.int .i64 v.kind) (.int .i64 v.num) (.string v.text) (.bool v.tr) (.int .i64 v.fail)) b1 (by simp)
          have HB := hide (below_five ((below_al w (.cells #[.int .i64 v.kind, .int .i64 v.num, .string v.text, .bool v.tr, .int .i64 v.fail] 29)).trans (b1.mono (by simp))) (Nat.le_refl _) (.int .i64 u.kind) (.int .i64 u.num) (.string u.text) (.bool u.tr) (.int .i64 u.fail))
          have HF := hide (five_set hf (.int .i64 u.kind) (.int .i64 u.num) (.string u.text) (.bool u.tr) (.int .i64 u.fail))
          obtain ⟨x0, c0⟩ := five_c hf 0 (by omega)
          obtain ⟨x1, c1⟩ := five_c hf 1 (by omega)
          obtain ⟨x2, c2⟩ := five_c hf 2 (by omega)
          obtain ⟨x3, c3⟩ := five_c hf 3 (by omega)
          obtain ⟨x4, c4⟩ := five_c hf 4 (by omega)
          have f0 := five_f hf 0
          have f1 := five_f hf 1
          have f2 := five_f hf 2
          have f3 := five_f hf 3
          have f4 := five_f hf 4
          clear hf b1
          rw [hb] at HB HF
          go_wp2
          go_ret2
          exact ⟨pair_n (unhide E), unhide HB⟩
        · rw [hb] at E
          go_enter Tryz.func42, Tryz.ntmps42
          go_wp2_with fail
          refine (unhide HS _).mono ?_
          rintro e w1 ⟨rfl, b1⟩
          have hf := five_below (five_new w 29 (.int .i64 v.kind) (.int .i64 v.num) (.string v.text) (.bool v.tr) (.int .i64 v.fail)) b1 (by simp)
          have HB := hide (below_five ((below_al w (.cells #[.int .i64 v.kind, .int .i64 v.num, .string v.text, .bool v.tr, .int .i64 v.fail] 29)).trans (b1.mono (by simp))) (Nat.le_refl _) (.int .i64 u.kind) (.int .i64 u.num) (.string u.text) (.bool u.tr) (.int .i64 u.fail))
          have HF := hide (five_set hf (.int .i64 u.kind) (.int .i64 u.num) (.string u.text) (.bool u.tr) (.int .i64 u.fail))
          obtain ⟨x0, c0⟩ := five_c hf 0 (by omega)
          obtain ⟨x1, c1⟩ := five_c hf 1 (by omega)
          obtain ⟨x2, c2⟩ := five_c hf 2 (by omega)
          obtain ⟨x3, c3⟩ := five_c hf 3 (by omega)
          obtain ⟨x4, c4⟩ := five_c hf 4 (by omega)
          have f0 := five_f hf 0
          have f1 := five_f hf 1
          have f2 := five_f hf 2
          have f3 := five_f hf 3
          have f4 := five_f hf 4
          clear hf b1
          rw [hb] at HB HF
          go_wp2
          go_ret2
          exact ⟨pair_n (unhide E), unhide HB⟩
    · have k2 : u.kind = 2 := by rw [beq_iff_eq] at h2; exact h2
      have E : Hid (asNumV u = (if ((parseR (bareV u.text).data.toList).2 != 0) = true then (0, 3) else ((parseR (bareV u.text).data.toList).1, 0))) := hide (by unfold asNumV; rw [if_neg n1, if_pos k2])
      clear n1 k2
      go_enter Tryz.func42, Tryz.ntmps42
      go_wp2_with fail
      refine (unhide HS _).mono ?_
      rintro e w1 ⟨rfl, b1⟩
      have hf := five_below (five_new w 29 (.int .i64 v.kind) (.int .i64 v.num) (.string v.text) (.bool v.tr) (.int .i64 v.fail)) b1 (by simp)
      have HB := hide (below_five ((below_al w (.cells #[.int .i64 v.kind, .int .i64 v.num, .string v.text, .bool v.tr, .int .i64 v.fail] 29)).trans (b1.mono (by simp))) (Nat.le_refl _) (.int .i64 u.kind) (.int .i64 u.num) (.string u.text) (.bool u.tr) (.int .i64 u.fail))
      have HF := hide (five_set hf (.int .i64 u.kind) (.int .i64 u.num) (.string u.text) (.bool u.tr) (.int .i64 u.fail))
      obtain ⟨x0, c0⟩ := five_c hf 0 (by omega)
      obtain ⟨x1, c1⟩ := five_c hf 1 (by omega)
      obtain ⟨x2, c2⟩ := five_c hf 2 (by omega)
      obtain ⟨x3, c3⟩ := five_c hf 3 (by omega)
      obtain ⟨x4, c4⟩ := five_c hf 4 (by omega)
      have f0 := five_f hf 0
      have f1 := five_f hf 1
      have f2 := five_f hf 2
      have f3 := five_f hf 3
      have f4 := five_f hf 4
      clear hf b1
      go_wp2_with fail
      refine (bare_ref u.text _ (by have := unhide HTX; omega)).mono ?_
      rintro e w2 ⟨rfl, rfl⟩
      go_wp2_with fail
      refine (parse_ref (bareV u.text) _ (by have := unhide HTX; have := bare_size u.text; omega)).mono ?_
      rintro e w3 ⟨rfl, b3⟩
      have HB2 := hide (below_nx (unhide HB) b3)
      clear b3
      obtain ⟨r, hr⟩ : ∃ r, parseR (bareV u.text).data.toList = r := ⟨_, rfl⟩
      rw [hr] at E ⊢
      clear hr
      obtain ⟨p, q⟩ := r
      simp only [] at E ⊢
      cases e1 : (q != 0)
      · rw [e1] at E
        go_wp2
        go_ret2
        exact ⟨pair_n (unhide E), unhide HB2⟩
      · rw [e1] at E
        go_wp2
        go_ret2
        exact ⟨pair_n (unhide E), unhide HB2⟩
  · have k1 : u.kind = 1 := by rw [beq_iff_eq] at h1; exact h1
    have E : Hid (asNumV u = (u.num, 0)) := hide (by unfold asNumV; rw [if_pos k1])
    clear k1
    go_enter Tryz.func42, Tryz.ntmps42
    go_wp2_with fail
    refine (unhide HS _).mono ?_
    rintro e w1 ⟨rfl, b1⟩
    have hf := five_below (five_new w 29 (.int .i64 v.kind) (.int .i64 v.num) (.string v.text) (.bool v.tr) (.int .i64 v.fail)) b1 (by simp)
    have HB := hide (below_five ((below_al w (.cells #[.int .i64 v.kind, .int .i64 v.num, .string v.text, .bool v.tr, .int .i64 v.fail] 29)).trans (b1.mono (by simp))) (Nat.le_refl _) (.int .i64 u.kind) (.int .i64 u.num) (.string u.text) (.bool u.tr) (.int .i64 u.fail))
    have HF := hide (five_set hf (.int .i64 u.kind) (.int .i64 u.num) (.string u.text) (.bool u.tr) (.int .i64 u.fail))
    obtain ⟨x0, c0⟩ := five_c hf 0 (by omega)
    obtain ⟨x1, c1⟩ := five_c hf 1 (by omega)
    obtain ⟨x2, c2⟩ := five_c hf 2 (by omega)
    obtain ⟨x3, c3⟩ := five_c hf 3 (by omega)
    obtain ⟨x4, c4⟩ := five_c hf 4 (by omega)
    have f0 := five_f hf 0
    have f1 := five_f hf 1
    have f2 := five_f hf 2
    have f3 := five_f hf 3
    have f4 := five_f hf 4
    clear hf b1
    go_wp2
    go_ret2
    exact ⟨pair_n (unhide E), unhide HB⟩
end Go.Proofs.YtbeijnflfmjgfaaGreatDoor

namespace Go.Proofs.YtbeijnflfmjgfaaGreatDoor
open Go.RowKit

def asTextV (u : Vl) : ByteArray × Int := if u.kind = 4 then (noText, u.fail) else (showV u, 0)
theorem pair_s {k : IntKind} {r : ByteArray × Int} {a : ByteArray} {b : Int} (h : r = (a, b)) : Ending.returned (.tuple #[.string a, .int k b]) = .returned (.tuple #[.string r.1, .int k r.2]) := by rw [h]

set_option maxRecDepth 100000 in
set_option maxHeartbeats 4000000 in
theorem astext_ref (v : Vl) (w : World) (hs : v.text.size ≤ 1000) :
    Calls Tryz.prog 40 #[.agg v.cells] w fun e w' => e = .returned (.tuple #[.string (asTextV (vSound v)).1, .int .i64 (asTextV (vSound v)).2]) ∧ Below w.heap.size w w' := by
  obtain ⟨u, hu⟩ : ∃ u, vSound v = u := ⟨_, rfl⟩
  have HS := hide (fun w => sound_ref v w (by omega))
  have HTX : Hid (u.text.size ≤ 1000) := hide (by rw [← hu]; exact sound_size2 v hs)
  have HSH : Hid (∀ w, Calls Tryz.prog 76 #[.agg u.cells] w fun e w' => e = .returned (.string (showV u)) ∧ Below w.heap.size w w') := hide (fun w => by
    have h := show_ref u w (by have := unhide HTX; omega)
    rw [← hu, sound_idem v] at h
    rw [← hu]; exact h)
  rw [hu] at HS ⊢
  clear hu
  unfold Vl.cells at HS HSH ⊢
  cases h4 : (u.kind == 4)
  · have E : Hid (asTextV u = (showV u, 0)) := hide (by unfold asTextV; rw [if_neg (by rw [beq_eq_false_iff_ne] at h4; exact h4)])
    go_enter Tryz.func40, Tryz.ntmps40
    go_wp2_with fail
    refine (unhide HS _).mono ?_
    rintro e w1 ⟨rfl, b1⟩
    have hf := five_below (five_new w 29 (.int .i64 v.kind) (.int .i64 v.num) (.string v.text) (.bool v.tr) (.int .i64 v.fail)) b1 (by simp)
    have HB := hide (below_five ((below_al w (.cells #[.int .i64 v.kind, .int .i64 v.num, .string v.text, .bool v.tr, .int .i64 v.fail] 29)).trans (b1.mono (by simp))) (Nat.le_refl _) (.int .i64 u.kind) (.int .i64 u.num) (.string u.text) (.bool u.tr) (.int .i64 u.fail))
    have HF := hide (five_set hf (.int .i64 u.kind) (.int .i64 u.num) (.string u.text) (.bool u.tr) (.int .i64 u.fail))
    obtain ⟨x0, c0⟩ := five_c hf 0 (by omega)
    obtain ⟨x1, c1⟩ := five_c hf 1 (by omega)
    obtain ⟨x2, c2⟩ := five_c hf 2 (by omega)
    obtain ⟨x3, c3⟩ := five_c hf 3 (by omega)
    obtain ⟨x4, c4⟩ := five_c hf 4 (by omega)
    have f0 := five_f hf 0
    have f1 := five_f hf 1
    have f2 := five_f hf 2
    have f3 := five_f hf 3
    have f4 := five_f hf 4
    clear hf b1
    go_wp2_with fail
    refine (unhide HSH _).mono ?_
    rintro e w2 ⟨rfl, b2⟩
    have HB2 := hide (below_nx (unhide HB) b2)
    clear b2
    go_wp2
    go_ret2
    exact ⟨pair_s (unhide E), unhide HB2⟩
  · have E : Hid (asTextV u = (noText, u.fail)) := hide (by unfold asTextV; rw [if_pos (by rw [beq_iff_eq] at h4; exact h4)])
    go_enter Tryz.func40, Tryz.ntmps40
    go_wp2_with fail
    refine (unhide HS _).mono ?_
    rintro e w1 ⟨rfl, b1⟩
    have hf := five_below (five_new w 29 (.int .i64 v.kind) (.int .i64 v.num) (.string v.text) (.bool v.tr) (.int .i64 v.fail)) b1 (by simp)
    have HB := hide (below_five ((below_al w (.cells #[.int .i64 v.kind, .int .i64 v.num, .string v.text, .bool v.tr, .int .i64 v.fail] 29)).trans (b1.mono (by simp))) (Nat.le_refl _) (.int .i64 u.kind) (.int .i64 u.num) (.string u.text) (.bool u.tr) (.int .i64 u.fail))
    have HF := hide (five_set hf (.int .i64 u.kind) (.int .i64 u.num) (.string u.text) (.bool u.tr) (.int .i64 u.fail))
    obtain ⟨x0, c0⟩ := five_c hf 0 (by omega)
    obtain ⟨x1, c1⟩ := five_c hf 1 (by omega)
    obtain ⟨x2, c2⟩ := five_c hf 2 (by omega)
    obtain ⟨x3, c3⟩ := five_c hf 3 (by omega)
    obtain ⟨x4, c4⟩ := five_c hf 4 (by omega)
    have f0 := five_f hf 0
    have f1 := five_f hf 1
    have f2 := five_f hf 2
    have f3 := five_f hf 3
    have f4 := five_f hf 4
    clear hf b1
    go_wp2
    go_region
    go_wp2
    go_ret2
    exact ⟨pair_s (unhide E), (unhide HB).drew⟩

def ltL : List UInt8 → List UInt8 → Int
  | [], [] => 0
  | [], _ :: _ => -1
  | _ :: _, [] => 1
  | a :: l, b :: m => if a.toNat < b.toNat then -1 else if b.toNat < a.toNat then 1 else ltL l m
theorem drop_byte (s : ByteArray) (i : Nat) (h : i < s.size) : s.data.toList.drop i = s[i] :: s.data.toList.drop (i + 1) := by
  rw [List.drop_eq_getElem_cons (by exact h)]; rfl
theorem ltL_nil (l : List UInt8) (m : List UInt8) (h : l = [] ∨ m = []) : ltL l m = cmpV (l.length : Int) (m.length : Int) := by
  unfold cmpV
  rcases h with rfl | rfl
  · cases m with
    | nil => rfl
    | cons b m => rw [if_pos (by show ((0 : Nat) : Int) < ((m.length + 1 : Nat) : Int); omega)]; rfl
  · cases l with
    | nil => rfl
    | cons b m => rw [if_neg (by show ¬ ((m.length + 1 : Nat) : Int) < ((0 : Nat) : Int); omega), if_pos (by show ((0 : Nat) : Int) < ((m.length + 1 : Nat) : Int); omega)]; rfl
theorem cmpV_shift (a b : Int) (i : Nat) : cmpV (a - i) (b - i) = cmpV a b := by
  unfold cmpV
  by_cases h : a < b
  · rw [if_pos h, if_pos (by omega)]
  · rw [if_neg h, if_neg (by omega)]
    by_cases h2 : b < a
    · rw [if_pos h2, if_pos (by omega)]
    · rw [if_neg h2, if_neg (by omega)]

set_option maxRecDepth 100000 in
set_option maxHeartbeats 4000000 in
theorem texts_ref (s t : ByteArray) (w : World) (hs : s.size ≤ 1000000) (ht : t.size ≤ 1000000) :
    Calls Tryz.prog 75 #[.string s, .string t] w fun e w' => e = .returned (.int .i64 (ltL s.data.toList t.data.toList)) ∧ Below w.heap.size w w' := by
  obtain ⟨R, hR⟩ : ∃ R, ltL s.data.toList t.data.toList = R := ⟨_, rfl⟩
  rw [hR]
  go_enter Tryz.func75, Tryz.ntmps75
  go_wp2
  go_loopw [5] (fun v wr => ∃ i m : Nat, v = .int .i64 (i : Int) ∧ i ≤ s.size ∧ i ≤ t.size ∧ Hid (ltL (s.data.toList.drop i) (t.data.toList.drop i) = R) ∧ wr = w.drewN m) (fun v _ => s.size - (intOf v).toNat)
  case atStart => exact ⟨0, 0, rfl, by omega, by omega, hide (by rw [List.drop_zero, List.drop_zero]; exact hR), rfl⟩
  case round =>
    clear hR
    obtain ⟨i, m, rfl, h1, h2, HR, rfl⟩ := hrel
    by_cases hi : i < s.size ∧ i < t.size
    · obtain ⟨i1, i2⟩ := hi
      have e1 := drop_byte s i i1
      have e2 := drop_byte t i i2
      obtain ⟨x, hx⟩ : ∃ x, s[i] = x := ⟨_, rfl⟩
      obtain ⟨y, hy⟩ : ∃ y, t[i] = y := ⟨_, rfl⟩
      have hr := unhide HR
      rw [e1, e2, hx, hy] at hr
      unfold ltL at hr
      have HRR := hide hr
      clear hr e1 e2 HR
      by_cases c1 : x.toNat < y.toNat
      · have E : Hid (R = -1) := hide (by rw [← unhide HRR, if_pos c1])
        go_wp2
        go_quiet (fail)
        go_wp2
        go_ret
        exact ⟨by rw [unhide E]; rfl, below_drewN (below_drewN (Below.refl _ _) _) _⟩
      · by_cases c2 : y.toNat < x.toNat
        · have E : Hid (R = 1) := hide (by rw [← unhide HRR, if_neg c1, if_pos c2])
          go_wp2
          go_quiet (fail)
          go_wp2
          go_quiet (fail)
          go_wp2
          go_ret
          exact ⟨by rw [unhide E]; rfl, below_drewN (below_drewN (below_drewN (Below.refl _ _) _) _) _⟩
        · have HN : Hid (ltL (s.data.toList.drop (i + 1)) (t.data.toList.drop (i + 1)) = R) := hide (by rw [← unhide HRR, if_neg c1, if_neg c2])
          go_wp2
          go_quiet (fail)
          go_wp2
          go_quiet (fail)
          go_wp2
          exact ⟨⟨i + 1, _, int_eqv (by omega), by omega, by omega, HN, rfl⟩, by simp [intOf]; omega⟩
    · have E : Hid (R = cmpV (s.size : Int) (t.size : Int)) := hide (by
        rw [← unhide HR, ltL_nil _ _ (by
          rcases Nat.lt_or_ge i s.size with h | h
          · exact Or.inr (List.drop_of_length_le (by show t.size ≤ i; omega))
          · exact Or.inl (List.drop_of_length_le (by exact h))), List.length_drop, List.length_drop]
        have a1 : s.data.toList.length = s.size := rfl
        have a2 : t.data.toList.length = t.size := rfl
        rw [a1, a2, show ((s.size - i : Nat) : Int) = (s.size : Int) - (i : Int) by omega, show ((t.size - i : Nat) : Int) = (t.size : Int) - (i : Int) by omega, cmpV_shift])
      by_cases i1 : i < s.size
      · have i2 : ¬ i < t.size := fun h => hi ⟨i1, h⟩
        clear hi
        have d2 : decide ((i : Int) < (t.size : Int)) = false := decide_eq_false (by omega)
        go_wp2_with fail
        refine (numbers_ref _ _ _).mono ?_
        rintro e w2 ⟨rfl, rfl⟩
        go_wp2
        go_ret
        exact ⟨by rw [unhide E]; rfl, below_drewN (Below.refl _ _) _⟩
      · clear hi
        have d1 : decide ((i : Int) < (s.size : Int)) = false := decide_eq_false (by omega)
        go_wp2_with fail
        refine (numbers_ref _ _ _).mono ?_
        rintro e w2 ⟨rfl, rfl⟩
        go_wp2
        go_ret
        exact ⟨by rw [unhide E]; rfl, below_drewN (Below.refl _ _) _⟩
end Go.Proofs.YtbeijnflfmjgfaaGreatDoor

namespace Go.Proofs.YtbeijnflfmjgfaaGreatDoor
open Go.RowKit

def bl (k : Int) : Vl := ⟨k, 0, noText, false, 0⟩
def sameV (u x : Vl) : Int :=
  if u.kind = 1 then cmpV u.num x.num else if u.kind = 2 then ltL (mapB lowC u.text).data.toList (mapB lowC x.text).data.toList else if u.kind = 3 then (if u.tr = x.tr then 0 else if x.tr = true then -1 else 1) else 0
def ordV3 (u x : Vl) : Int × Int :=
  if u.kind = 4 then (0, u.fail) else if x.kind = 4 then (0, x.fail)
    else if u.kind = 0 then (if x.kind = 0 then (0, 0) else (sameV (bl x.kind) x, 0))
    else if x.kind = 0 then (sameV u (bl u.kind), 0)
    else if u.kind = x.kind then (sameV u x, 0) else (cmpV u.kind x.kind, 0)
theorem five_other {w : World} {B : Nat} {t : TypeId} {cs : Array Value} (h : FiveAt w B t cs) (C : Nat) (hC : B ≠ C) (x0 x1 x2 x3 x4 : Value) :
    FiveAt (((((w.setCell ⟨C, 0, none⟩ x0).setCell ⟨C, 1, none⟩ x1).setCell ⟨C, 2, none⟩ x2).setCell ⟨C, 3, none⟩ x3).setCell ⟨C, 4, none⟩ x4) B t cs := by
  refine ⟨?_, h.2⟩
  rw [heap_setCell_other _ _ _ _ hC, heap_setCell_other _ _ _ _ hC, heap_setCell_other _ _ _ _ hC, heap_setCell_other _ _ _ _ hC, heap_setCell_other _ _ _ _ hC]
  exact h.1

set_option maxRecDepth 100000 in
set_option maxHeartbeats 8000000 in
theorem order_err (a b : Vl) (w : World) (ha : a.text.size ≤ 1000) (hb : b.text.size ≤ 1000) (h4 : (vSound a).kind = 4 ∨ (vSound b).kind = 4) :
    Calls Tryz.prog 36 #[.agg a.cells, .agg b.cells] w fun e w' => e = .returned (.tuple #[.int .i64 (ordV3 (vSound a) (vSound b)).1, .int .i64 (ordV3 (vSound a) (vSound b)).2]) ∧ Below w.heap.size w w' := by
  obtain ⟨u, hu⟩ : ∃ u, vSound a = u := ⟨_, rfl⟩
  obtain ⟨x, hx⟩ : ∃ x, vSound b = x := ⟨_, rfl⟩
  have HS1 := hide (fun w => sound_ref a w (by omega))
  have HS2 := hide (fun w => sound_ref b w (by omega))
  rw [hu] at HS1 h4 ⊢
  rw [hx] at HS2 h4 ⊢
  clear hu hx
  unfold Vl.cells at HS1 HS2 ⊢
  cases k4 : (u.kind == 4)
  · have n4 : u.kind ≠ 4 := by rw [beq_eq_false_iff_ne] at k4; exact k4
    have j4 : x.kind = 4 := by rcases h4 with h | h; exact absurd h n4; exact h
    have E : Hid (ordV3 u x = (0, x.fail)) := hide (by unfold ordV3; rw [if_neg n4, if_pos j4])
    have k5 : (x.kind == 4) = true := by rw [beq_iff_eq]; exact j4
    clear n4 j4 h4
    go_enter Tryz.func36, Tryz.ntmps36
    go_wp2_with fail
    refine (unhide HS1 _).mono ?_
    rintro e w1 ⟨rfl, b1⟩
    have p1 := five_below (five_old w 29 (.int .i64 a.kind) (.int .i64 a.num) (.string a.text) (.bool a.tr) (.int .i64 a.fail) (.cells #[.int .i64 b.kind, .int .i64 b.num, .string b.text, .bool b.tr, .int .i64 b.fail] 29)) b1 (by simp; omega)
    have p2 := five_below (five_new2 w (.cells #[.int .i64 a.kind, .int .i64 a.num, .string a.text, .bool a.tr, .int .i64 a.fail] 29) 29 (.int .i64 b.kind) (.int .i64 b.num) (.string b.text) (.bool b.tr) (.int .i64 b.fail)) b1 (by simp)
    have B1 : Below w.heap.size w w1 := (below_al2 w (.cells #[.int .i64 a.kind, .int .i64 a.num, .string a.text, .bool a.tr, .int .i64 a.fail] 29) (.cells #[.int .i64 b.kind, .int .i64 b.num, .string b.text, .bool b.tr, .int .i64 b.fail] 29)).trans (b1.mono (by simp; omega))
    obtain ⟨x0, c0⟩ := five_c p1 0 (by omega)
    obtain ⟨x1, c1⟩ := five_c p1 1 (by omega)
    obtain ⟨x2, c2⟩ := five_c p1 2 (by omega)
    obtain ⟨x3, c3⟩ := five_c p1 3 (by omega)
    obtain ⟨x4, c4⟩ := five_c p1 4 (by omega)
    have f0 := five_f p1 0
    have f1 := five_f p1 1
    have f2 := five_f p1 2
    have f3 := five_f p1 3
    have f4 := five_f p1 4
    have d0 : w1.cell? ⟨w.heap.size + 1, 0, none⟩ = some (.int .i64 b.kind) := by simp [World.cell?, p2.1]
    have d1 : w1.cell? ⟨w.heap.size + 1, 1, none⟩ = some (.int .i64 b.num) := by simp [World.cell?, p2.1]
    have d2 : w1.cell? ⟨w.heap.size + 1, 2, none⟩ = some (.string b.text) := by simp [World.cell?, p2.1]
    have d3 : w1.cell? ⟨w.heap.size + 1, 3, none⟩ = some (.bool b.tr) := by simp [World.cell?, p2.1]
    have d4 : w1.cell? ⟨w.heap.size + 1, 4, none⟩ = some (.int .i64 b.fail) := by simp [World.cell?, p2.1]
    have P1 := hide (five_set p1 (.int .i64 u.kind) (.int .i64 u.num) (.string u.text) (.bool u.tr) (.int .i64 u.fail))
    have P2 := hide p2
    have HB1 := hide (below_five B1 (Nat.le_refl _) (.int .i64 u.kind) (.int .i64 u.num) (.string u.text) (.bool u.tr) (.int .i64 u.fail))
    clear p1 p2 b1 B1
    go_wp2_with fail
    refine (unhide HS2 _).mono ?_
    rintro e w2 ⟨rfl, b2⟩
    have q1 := five_below (unhide P1) b2 (five_lt (unhide P1))
    have q2 := five_below (five_other (unhide P2) w.heap.size (by omega) (.int .i64 u.kind) (.int .i64 u.num) (.string u.text) (.bool u.tr) (.int .i64 u.fail)) b2 (by have := five_lt (five_other (unhide P2) w.heap.size (by omega) (.int .i64 u.kind) (.int .i64 u.num) (.string u.text) (.bool u.tr) (.int .i64 u.fail)); exact this)
    have HB2 := hide (below_five (below_nx (unhide HB1) b2) (B := w.heap.size + 1) (by omega) (.int .i64 x.kind) (.int .i64 x.num) (.string x.text) (.bool x.tr) (.int .i64 x.fail))
    clear c0 f0 d0 c1 f1 d1 c2 f2 d2 c3 f3 d3 c4 f4 d4 b2 P1 P2 HB1
    clear x0 x1 x2 x3 x4
    have c0 : w2.cell? ⟨w.heap.size, 0, none⟩ = some (.int .i64 u.kind) := by simp [World.cell?, q1.1]
    have c1 : w2.cell? ⟨w.heap.size, 1, none⟩ = some (.int .i64 u.num) := by simp [World.cell?, q1.1]
    have c2 : w2.cell? ⟨w.heap.size, 2, none⟩ = some (.string u.text) := by simp [World.cell?, q1.1]
    have c3 : w2.cell? ⟨w.heap.size, 3, none⟩ = some (.bool u.tr) := by simp [World.cell?, q1.1]
    have c4 : w2.cell? ⟨w.heap.size, 4, none⟩ = some (.int .i64 u.fail) := by simp [World.cell?, q1.1]
    have f0 := five_f q1 0
    have f1 := five_f q1 1
    have f2 := five_f q1 2
    have f3 := five_f q1 3
    have f4 := five_f q1 4
    obtain ⟨x0, d0⟩ := five_c q2 0 (by omega)
    obtain ⟨x1, d1⟩ := five_c q2 1 (by omega)
    obtain ⟨x2, d2⟩ := five_c q2 2 (by omega)
    obtain ⟨x3, d3⟩ := five_c q2 3 (by omega)
    obtain ⟨x4, d4⟩ := five_c q2 4 (by omega)
    have g0 := five_f q2 0
    have g1 := five_f q2 1
    have g2 := five_f q2 2
    have g3 := five_f q2 3
    have g4 := five_f q2 4
    clear q1 q2
    go_wp2
    go_region
    go_wp2
    go_ret2
    exact ⟨pair_n (unhide E), (unhide HB2).drew⟩
  · have E : Hid (ordV3 u x = (0, u.fail)) := hide (by unfold ordV3; rw [if_pos (by rw [beq_iff_eq] at k4; exact k4)])
    clear h4
    go_enter Tryz.func36, Tryz.ntmps36
    go_wp2_with fail
    refine (unhide HS1 _).mono ?_
    rintro e w1 ⟨rfl, b1⟩
    have p1 := five_below (five_old w 29 (.int .i64 a.kind) (.int .i64 a.num) (.string a.text) (.bool a.tr) (.int .i64 a.fail) (.cells #[.int .i64 b.kind, .int .i64 b.num, .string b.text, .bool b.tr, .int .i64 b.fail] 29)) b1 (by simp; omega)
    have p2 := five_below (five_new2 w (.cells #[.int .i64 a.kind, .int .i64 a.num, .string a.text, .bool a.tr, .int .i64 a.fail] 29) 29 (.int .i64 b.kind) (.int .i64 b.num) (.string b.text) (.bool b.tr) (.int .i64 b.fail)) b1 (by simp)
    have B1 : Below w.heap.size w w1 := (below_al2 w (.cells #[.int .i64 a.kind, .int .i64 a.num, .string a.text, .bool a.tr, .int .i64 a.fail] 29) (.cells #[.int .i64 b.kind, .int .i64 b.num, .string b.text, .bool b.tr, .int .i64 b.fail] 29)).trans (b1.mono (by simp; omega))
    obtain ⟨x0, c0⟩ := five_c p1 0 (by omega)
    obtain ⟨x1, c1⟩ := five_c p1 1 (by omega)
    obtain ⟨x2, c2⟩ := five_c p1 2 (by omega)
    obtain ⟨x3, c3⟩ := five_c p1 3 (by omega)
    obtain ⟨x4, c4⟩ := five_c p1 4 (by omega)
    have f0 := five_f p1 0
    have f1 := five_f p1 1
    have f2 := five_f p1 2
    have f3 := five_f p1 3
    have f4 := five_f p1 4
    have d0 : w1.cell? ⟨w.heap.size + 1, 0, none⟩ = some (.int .i64 b.kind) := by simp [World.cell?, p2.1]
    have d1 : w1.cell? ⟨w.heap.size + 1, 1, none⟩ = some (.int .i64 b.num) := by simp [World.cell?, p2.1]
    have d2 : w1.cell? ⟨w.heap.size + 1, 2, none⟩ = some (.string b.text) := by simp [World.cell?, p2.1]
    have d3 : w1.cell? ⟨w.heap.size + 1, 3, none⟩ = some (.bool b.tr) := by simp [World.cell?, p2.1]
    have d4 : w1.cell? ⟨w.heap.size + 1, 4, none⟩ = some (.int .i64 b.fail) := by simp [World.cell?, p2.1]
    have P1 := hide (five_set p1 (.int .i64 u.kind) (.int .i64 u.num) (.string u.text) (.bool u.tr) (.int .i64 u.fail))
    have P2 := hide p2
    have HB1 := hide (below_five B1 (Nat.le_refl _) (.int .i64 u.kind) (.int .i64 u.num) (.string u.text) (.bool u.tr) (.int .i64 u.fail))
    clear p1 p2 b1 B1
    go_wp2_with fail
    refine (unhide HS2 _).mono ?_
    rintro e w2 ⟨rfl, b2⟩
    have q1 := five_below (unhide P1) b2 (five_lt (unhide P1))
    have q2 := five_below (five_other (unhide P2) w.heap.size (by omega) (.int .i64 u.kind) (.int .i64 u.num) (.string u.text) (.bool u.tr) (.int .i64 u.fail)) b2 (by have := five_lt (five_other (unhide P2) w.heap.size (by omega) (.int .i64 u.kind) (.int .i64 u.num) (.string u.text) (.bool u.tr) (.int .i64 u.fail)); exact this)
    have HB2 := hide (below_five (below_nx (unhide HB1) b2) (B := w.heap.size + 1) (by omega) (.int .i64 x.kind) (.int .i64 x.num) (.string x.text) (.bool x.tr) (.int .i64 x.fail))
    clear c0 f0 d0 c1 f1 d1 c2 f2 d2 c3 f3 d3 c4 f4 d4 b2 P1 P2 HB1
    clear x0 x1 x2 x3 x4
    have c0 : w2.cell? ⟨w.heap.size, 0, none⟩ = some (.int .i64 u.kind) := by simp [World.cell?, q1.1]
    have c1 : w2.cell? ⟨w.heap.size, 1, none⟩ = some (.int .i64 u.num) := by simp [World.cell?, q1.1]
    have c2 : w2.cell? ⟨w.heap.size, 2, none⟩ = some (.string u.text) := by simp [World.cell?, q1.1]
    have c3 : w2.cell? ⟨w.heap.size, 3, none⟩ = some (.bool u.tr) := by simp [World.cell?, q1.1]
    have c4 : w2.cell? ⟨w.heap.size, 4, none⟩ = some (.int .i64 u.fail) := by simp [World.cell?, q1.1]
    have f0 := five_f q1 0
    have f1 := five_f q1 1
    have f2 := five_f q1 2
    have f3 := five_f q1 3
    have f4 := five_f q1 4
    obtain ⟨x0, d0⟩ := five_c q2 0 (by omega)
    obtain ⟨x1, d1⟩ := five_c q2 1 (by omega)
    obtain ⟨x2, d2⟩ := five_c q2 2 (by omega)
    obtain ⟨x3, d3⟩ := five_c q2 3 (by omega)
    obtain ⟨x4, d4⟩ := five_c q2 4 (by omega)
    have g0 := five_f q2 0
    have g1 := five_f q2 1
    have g2 := five_f q2 2
    have g3 := five_f q2 3
    have g4 := five_f q2 4
    clear q1 q2
    go_wp2
    go_region
    go_wp2
    go_ret2
    exact ⟨pair_n (unhide E), (unhide HB2).drew⟩
end Go.Proofs.YtbeijnflfmjgfaaGreatDoor

namespace Go.Proofs.YtbeijnflfmjgfaaGreatDoor
open Go.RowKit

theorem ord_ne (u x : Vl) (k1 : (u.kind == 4) = false) (k2 : (x.kind == 4) = false) (k3 : (u.kind == 0) = false) (k5 : (x.kind == 0) = false) (k6 : (u.kind == x.kind) = false) : ordV3 u x = (cmpV u.kind x.kind, 0) := by
  rw [beq_eq_false_iff_ne] at k1 k2 k3 k5 k6
  unfold ordV3; rw [if_neg k1, if_neg k2, if_neg k3, if_neg k5, if_neg k6]
theorem ord_same (u x : Vl) (k1 : (u.kind == 4) = false) (k2 : (x.kind == 4) = false) (k3 : (u.kind == 0) = false) (k5 : (x.kind == 0) = false) (k6 : (u.kind == x.kind) = true) : ordV3 u x = (sameV u x, 0) := by
  rw [beq_eq_false_iff_ne] at k1 k2 k3 k5
  rw [beq_iff_eq] at k6
  unfold ordV3; rw [if_neg k1, if_neg k2, if_neg k3, if_neg k5, if_pos k6]
theorem ord_b0 (u x : Vl) (k1 : (u.kind == 4) = false) (k2 : (x.kind == 4) = false) (k3 : (u.kind == 0) = false) (k5 : (x.kind == 0) = true) : ordV3 u x = (sameV u (bl u.kind), 0) := by
  rw [beq_eq_false_iff_ne] at k1 k2 k3
  rw [beq_iff_eq] at k5
  unfold ordV3; rw [if_neg k1, if_neg k2, if_neg k3, if_pos k5]
theorem ord_a0 (u x : Vl) (k1 : (u.kind == 4) = false) (k2 : (x.kind == 4) = false) (k3 : (u.kind == 0) = true) (k5 : (x.kind == 0) = false) : ordV3 u x = (sameV (bl x.kind) x, 0) := by
  rw [beq_eq_false_iff_ne] at k1 k2 k5
  rw [beq_iff_eq] at k3
  unfold ordV3; rw [if_neg k1, if_neg k2, if_pos k3, if_neg k5]
theorem ord_00 (u x : Vl) (k1 : (u.kind == 4) = false) (k2 : (x.kind == 4) = false) (k3 : (u.kind == 0) = true) (k5 : (x.kind == 0) = true) : ordV3 u x = (0, 0) := by
  rw [beq_eq_false_iff_ne] at k1 k2
  rw [beq_iff_eq] at k3 k5
  unfold ordV3; rw [if_neg k1, if_neg k2, if_pos k3, if_pos k5]
theorem same1 (U X : Vl) (m1 : (U.kind == 1) = true) : sameV U X = cmpV U.num X.num := by
  rw [beq_iff_eq] at m1
  unfold sameV; rw [if_pos m1]
theorem same2 (U X : Vl) (m1 : (U.kind == 1) = false) (m2 : (U.kind == 2) = true) : sameV U X = ltL (mapB lowC U.text).data.toList (mapB lowC X.text).data.toList := by
  rw [beq_iff_eq] at m2
  rw [beq_eq_false_iff_ne] at m1
  unfold sameV; rw [if_neg m1, if_pos m2]
theorem same3 (U X : Vl) (m1 : (U.kind == 1) = false) (m2 : (U.kind == 2) = false) (m3 : (U.kind == 3) = true) (p q : Bool) (t1 : U.tr = p) (t2 : X.tr = q) : sameV U X = if p = q then 0 else if q = true then -1 else 1 := by
  rw [beq_iff_eq] at m3
  rw [beq_eq_false_iff_ne] at m1 m2
  unfold sameV; rw [if_neg m1, if_neg m2, if_pos m3, t1, t2]
theorem same4 (U X : Vl) (m1 : (U.kind == 1) = false) (m2 : (U.kind == 2) = false) (m3 : (U.kind == 3) = false) : sameV U X = 0 := by
  rw [beq_eq_false_iff_ne] at m1 m2 m3
  unfold sameV; rw [if_neg m1, if_neg m2, if_neg m3]
theorem five_at {w : World} {B : Nat} {t : TypeId} {cs : Array Value} (h : FiveAt w B t cs) (i : Nat) (v : Value) (hv : cs[i]? = some v) : w.cell? ⟨B, i, none⟩ = some v := by
  rw [World.cell?, h.1]; simpa using hv

set_option maxRecDepth 100000 in
set_option maxHeartbeats 8000000 in
theorem order_ne (a b : Vl) (w : World) (ha : a.text.size ≤ 1000) (hb : b.text.size ≤ 1000) (u x : Vl) (hu : vSound a = u) (hx : vSound b = x) (k1 : (u.kind == 4) = false) (k2 : (x.kind == 4) = false) :
    Calls Tryz.prog 36 #[.agg a.cells, .agg b.cells] w fun e w' => e = .returned (.tuple #[.int .i64 (ordV3 u x).1, .int .i64 (ordV3 u x).2]) ∧ Below w.heap.size w w' := by
  have HS1 := hide (fun w => sound_ref a w (by omega))
  have HS2 := hide (fun w => sound_ref b w (by omega))
  have HU : Hid (u.text.size ≤ 1000) := hide (by rw [← hu]; exact sound_size2 a ha)
  have HX : Hid (x.text.size ≤ 1000) := hide (by rw [← hx]; exact sound_size2 b hb)
  rw [hu] at HS1
  rw [hx] at HS2
  clear hu hx ha hb
  unfold Vl.cells at HS1 HS2 ⊢
  go_enter Tryz.func36, Tryz.ntmps36
  go_wp2_with fail
  refine (unhide HS1 _).mono ?_
  rintro e w1 ⟨rfl, b1⟩
  have p1 := five_below (five_old w 29 (.int .i64 a.kind) (.int .i64 a.num) (.string a.text) (.bool a.tr) (.int .i64 a.fail) (.cells #[.int .i64 b.kind, .int .i64 b.num, .string b.text, .bool b.tr, .int .i64 b.fail] 29)) b1 (by simp; omega)
  have p2 := five_below (five_new2 w (.cells #[.int .i64 a.kind, .int .i64 a.num, .string a.text, .bool a.tr, .int .i64 a.fail] 29) 29 (.int .i64 b.kind) (.int .i64 b.num) (.string b.text) (.bool b.tr) (.int .i64 b.fail)) b1 (by simp)
  have B1 : Below w.heap.size w w1 := (below_al2 w (.cells #[.int .i64 a.kind, .int .i64 a.num, .string a.text, .bool a.tr, .int .i64 a.fail] 29) (.cells #[.int .i64 b.kind, .int .i64 b.num, .string b.text, .bool b.tr, .int .i64 b.fail] 29)).trans (b1.mono (by simp; omega))
  obtain ⟨x0, c0⟩ := five_c p1 0 (by omega)
  obtain ⟨x1, c1⟩ := five_c p1 1 (by omega)
  obtain ⟨x2, c2⟩ := five_c p1 2 (by omega)
  obtain ⟨x3, c3⟩ := five_c p1 3 (by omega)
  obtain ⟨x4, c4⟩ := five_c p1 4 (by omega)
  have f0 := five_f p1 0
  have f1 := five_f p1 1
  have f2 := five_f p1 2
  have f3 := five_f p1 3
  have f4 := five_f p1 4
  have d0 : w1.cell? ⟨w.heap.size + 1, 0, none⟩ = some (.int .i64 b.kind) := by simp [World.cell?, p2.1]
  have d1 : w1.cell? ⟨w.heap.size + 1, 1, none⟩ = some (.int .i64 b.num) := by simp [World.cell?, p2.1]
  have d2 : w1.cell? ⟨w.heap.size + 1, 2, none⟩ = some (.string b.text) := by simp [World.cell?, p2.1]
  have d3 : w1.cell? ⟨w.heap.size + 1, 3, none⟩ = some (.bool b.tr) := by simp [World.cell?, p2.1]
  have d4 : w1.cell? ⟨w.heap.size + 1, 4, none⟩ = some (.int .i64 b.fail) := by simp [World.cell?, p2.1]
  have P1 := hide (five_set p1 (.int .i64 u.kind) (.int .i64 u.num) (.string u.text) (.bool u.tr) (.int .i64 u.fail))
  have P2 := hide p2
  have HB1 := hide (below_five B1 (Nat.le_refl _) (.int .i64 u.kind) (.int .i64 u.num) (.string u.text) (.bool u.tr) (.int .i64 u.fail))
  clear p1 p2 b1 B1
  go_wp2_with fail
  refine (unhide HS2 _).mono ?_
  rintro e w2 ⟨rfl, b2⟩
  have q1 := five_below (unhide P1) b2 (five_lt (unhide P1))
  have q2 := five_below (five_other (unhide P2) w.heap.size (by omega) (.int .i64 u.kind) (.int .i64 u.num) (.string u.text) (.bool u.tr) (.int .i64 u.fail)) b2 (by have := five_lt (five_other (unhide P2) w.heap.size (by omega) (.int .i64 u.kind) (.int .i64 u.num) (.string u.text) (.bool u.tr) (.int .i64 u.fail)); exact this)
  have HB2 := hide (below_five (below_nx (unhide HB1) b2) (B := w.heap.size + 1) (by omega) (.int .i64 x.kind) (.int .i64 x.num) (.string x.text) (.bool x.tr) (.int .i64 x.fail))
  have Q1 := hide (five_other q1 (w.heap.size + 1) (by omega) (.int .i64 x.kind) (.int .i64 x.num) (.string x.text) (.bool x.tr) (.int .i64 x.fail))
  have Q2 := hide (five_set q2 (.int .i64 x.kind) (.int .i64 x.num) (.string x.text) (.bool x.tr) (.int .i64 x.fail))
  clear c0 f0 d0 c1 f1 d1 c2 f2 d2 c3 f3 d3 c4 f4 d4 b2 P1 P2 HB1
  clear x0 x1 x2 x3 x4
  obtain ⟨x0, d0⟩ := five_c q2 0 (by omega)
  obtain ⟨x1, d1⟩ := five_c q2 1 (by omega)
  obtain ⟨x2, d2⟩ := five_c q2 2 (by omega)
  obtain ⟨x3, d3⟩ := five_c q2 3 (by omega)
  obtain ⟨x4, d4⟩ := five_c q2 4 (by omega)
  have g0 := five_f q2 0
  have g1 := five_f q2 1
  have g2 := five_f q2 2
  have g3 := five_f q2 3
  have g4 := five_f q2 4
  clear q1 q2
  go_upto_region 3 with fail
  generalize hw3 : (((((w2.setCell ⟨w.heap.size + 1, 0, none⟩ (.int .i64 x.kind)).setCell ⟨w.heap.size + 1, 1, none⟩ (.int .i64 x.num)).setCell ⟨w.heap.size + 1, 2, none⟩ (.string x.text)).setCell ⟨w.heap.size + 1, 3, none⟩ (.bool x.tr)).setCell ⟨w.heap.size + 1, 4, none⟩ (.int .i64 x.fail)) = w3 at HB2 Q1 Q2 ⊢
  clear hw3 d0 d1 d2 d3 d4 g0 g1 g2 g3 g4
  clear x0 x1 x2 x3 x4
  have c0 : w3.cell? ⟨w.heap.size, 0, none⟩ = some (.int .i64 u.kind) := five_at (unhide Q1) _ _ rfl
  have d0 : w3.cell? ⟨w.heap.size + 1, 0, none⟩ = some (.int .i64 x.kind) := five_at (unhide Q2) _ _ rfl
  have c1 : w3.cell? ⟨w.heap.size, 1, none⟩ = some (.int .i64 u.num) := five_at (unhide Q1) _ _ rfl
  have d1 : w3.cell? ⟨w.heap.size + 1, 1, none⟩ = some (.int .i64 x.num) := five_at (unhide Q2) _ _ rfl
  have c2 : w3.cell? ⟨w.heap.size, 2, none⟩ = some (.string u.text) := five_at (unhide Q1) _ _ rfl
  have d2 : w3.cell? ⟨w.heap.size + 1, 2, none⟩ = some (.string x.text) := five_at (unhide Q2) _ _ rfl
  have c3 : w3.cell? ⟨w.heap.size, 3, none⟩ = some (.bool u.tr) := five_at (unhide Q1) _ _ rfl
  have d3 : w3.cell? ⟨w.heap.size + 1, 3, none⟩ = some (.bool x.tr) := five_at (unhide Q2) _ _ rfl
  have c4 : w3.cell? ⟨w.heap.size, 4, none⟩ = some (.int .i64 u.fail) := five_at (unhide Q1) _ _ rfl
  have d4 : w3.cell? ⟨w.heap.size + 1, 4, none⟩ = some (.int .i64 x.fail) := five_at (unhide Q2) _ _ rfl
  have f0 := five_f (unhide Q1) 0
  have g0 := five_f (unhide Q2) 0
  have f1 := five_f (unhide Q1) 1
  have g1 := five_f (unhide Q2) 1
  have f2 := five_f (unhide Q1) 2
  have g2 := five_f (unhide Q2) 2
  have f3 := five_f (unhide Q1) 3
  have g3 := five_f (unhide Q2) 3
  have f4 := five_f (unhide Q1) 4
  have g4 := five_f (unhide Q2) 4
  cases k3 : (u.kind == 0)
  · cases k5 : (x.kind == 0)
    · cases k6 : (u.kind == x.kind)
      · have E := hide (ord_ne u x k1 k2 k3 k5 k6)
        go_wp2_with fail
        refine (numbers_ref _ _ _).mono ?_
        rintro e w5 ⟨rfl, rfl⟩
        go_wp2
        go_ret2
        exact ⟨pair_n (unhide E), unhide HB2⟩
      · have E := hide (ord_same u x k1 k2 k3 k5 k6)
        cases m1 : (u.kind == 1)
        · cases m2 : (u.kind == 2)
          · cases m3 : (u.kind == 3)
            · go_wp2
              go_ret2
              first | exact ⟨pair_n ((unhide E).trans (congrArg (fun t => (t, (0 : Int))) (same4 u x m1 m2 m3))), unhide HB2⟩ | exact ⟨pair_n ((unhide E).trans (congrArg (fun t => (t, (0 : Int))) (same4 u x m1 m2 m3))), (unhide HB2).drew⟩
            · cases t1 : u.tr
              · cases t2 : x.tr
                · go_wp2
                  go_ret2
                  first | exact ⟨pair_n ((unhide E).trans (congrArg (fun t => (t, (0 : Int))) (same3 u x m1 m2 m3 _ _ t1 t2))), unhide HB2⟩ | exact ⟨pair_n ((unhide E).trans (congrArg (fun t => (t, (0 : Int))) (same3 u x m1 m2 m3 _ _ t1 t2))), (unhide HB2).drew⟩
                · go_wp2
                  go_ret2
                  first | exact ⟨pair_n ((unhide E).trans (congrArg (fun t => (t, (0 : Int))) (same3 u x m1 m2 m3 _ _ t1 t2))), unhide HB2⟩ | exact ⟨pair_n ((unhide E).trans (congrArg (fun t => (t, (0 : Int))) (same3 u x m1 m2 m3 _ _ t1 t2))), (unhide HB2).drew⟩
              · cases t2 : x.tr
                · go_wp2
                  go_ret2
                  first | exact ⟨pair_n ((unhide E).trans (congrArg (fun t => (t, (0 : Int))) (same3 u x m1 m2 m3 _ _ t1 t2))), unhide HB2⟩ | exact ⟨pair_n ((unhide E).trans (congrArg (fun t => (t, (0 : Int))) (same3 u x m1 m2 m3 _ _ t1 t2))), (unhide HB2).drew⟩
                · go_wp2
                  go_ret2
                  first | exact ⟨pair_n ((unhide E).trans (congrArg (fun t => (t, (0 : Int))) (same3 u x m1 m2 m3 _ _ t1 t2))), unhide HB2⟩ | exact ⟨pair_n ((unhide E).trans (congrArg (fun t => (t, (0 : Int))) (same3 u x m1 m2 m3 _ _ t1 t2))), (unhide HB2).drew⟩
          · go_wp2_with fail
            refine (lower_ref _ _ (by first | (have := unhide HU; omega) | decide)).mono ?_
            rintro e w5 ⟨rfl, b5⟩
            have d2' : w5.cell? ⟨w.heap.size + 1, 2, none⟩ = some (.string x.text) := five_at (five_below (unhide Q2) b5 (five_lt (unhide Q2))) _ _ rfl
            have HB5 := hide (below_nx (unhide HB2) b5)
            clear b5
            go_wp2_with fail
            refine (lower_ref _ _ (by first | (have := unhide HX; omega) | decide)).mono ?_
            rintro e w6 ⟨rfl, b6⟩
            have HB6 := hide (below_nx (unhide HB5) b6)
            clear b6
            go_wp2_with fail
            refine (texts_ref _ _ _ (by rw [mapB_size]; first | (have := unhide HU; omega) | decide) (by rw [mapB_size]; first | (have := unhide HX; omega) | decide)).mono ?_
            rintro e w7 ⟨rfl, b7⟩
            have HB7 := hide (below_nx (unhide HB6) b7)
            clear b7
            go_wp2
            go_ret2
            exact ⟨pair_n ((unhide E).trans (congrArg (fun t => (t, (0 : Int))) (same2 u x m1 m2))), unhide HB7⟩
        · go_wp2_with fail
          refine (numbers_ref _ _ _).mono ?_
          rintro e w5 ⟨rfl, rfl⟩
          go_wp2
          go_ret2
          first | exact ⟨pair_n ((unhide E).trans (congrArg (fun t => (t, (0 : Int))) (same1 u x m1))), unhide HB2⟩ | exact ⟨pair_n ((unhide E).trans (congrArg (fun t => (t, (0 : Int))) (same1 u x m1))), (unhide HB2).drew⟩
    · have E := hide (ord_b0 u x k1 k2 k3 k5)
      go_upto_region 11 with fail
      replace HB2 := hide (below_five (unhide HB2) (B := w.heap.size + 1) (by omega) (.int .i64 u.kind) (.int .i64 0) (.string ⟨#[]⟩) (.bool false) (.int .i64 0))
      replace Q1 := hide (five_other (unhide Q1) (w.heap.size + 1) (by omega) (.int .i64 u.kind) (.int .i64 0) (.string ⟨#[]⟩) (.bool false) (.int .i64 0))
      replace Q2 := hide (five_set (unhide Q2) (.int .i64 u.kind) (.int .i64 0) (.string ⟨#[]⟩) (.bool false) (.int .i64 0))
      generalize hw : (((((w3.setCell ⟨w.heap.size + 1, 0, none⟩ (.int .i64 u.kind)).setCell ⟨w.heap.size + 1, 1, none⟩ (.int .i64 0)).setCell ⟨w.heap.size + 1, 2, none⟩ (.string ⟨#[]⟩)).setCell ⟨w.heap.size + 1, 3, none⟩ (.bool false)).setCell ⟨w.heap.size + 1, 4, none⟩ (.int .i64 0)) = w4 at HB2 Q1 Q2 ⊢
      clear hw
      clear c0 d0 f0 g0 c1 d1 f1 g1 c2 d2 f2 g2 c3 d3 f3 g3 c4 d4 f4 g4
      have c0 : w4.cell? ⟨w.heap.size, 0, none⟩ = some (.int .i64 u.kind) := five_at (unhide Q1) _ _ rfl
      have d0 : w4.cell? ⟨w.heap.size + 1, 0, none⟩ = some (.int .i64 u.kind) := five_at (unhide Q2) _ _ rfl
      have c1 : w4.cell? ⟨w.heap.size, 1, none⟩ = some (.int .i64 u.num) := five_at (unhide Q1) _ _ rfl
      have d1 : w4.cell? ⟨w.heap.size + 1, 1, none⟩ = some (.int .i64 0) := five_at (unhide Q2) _ _ rfl
      have c2 : w4.cell? ⟨w.heap.size, 2, none⟩ = some (.string u.text) := five_at (unhide Q1) _ _ rfl
      have d2 : w4.cell? ⟨w.heap.size + 1, 2, none⟩ = some (.string ⟨#[]⟩) := five_at (unhide Q2) _ _ rfl
      have c3 : w4.cell? ⟨w.heap.size, 3, none⟩ = some (.bool u.tr) := five_at (unhide Q1) _ _ rfl
      have d3 : w4.cell? ⟨w.heap.size + 1, 3, none⟩ = some (.bool false) := five_at (unhide Q2) _ _ rfl
      have c4 : w4.cell? ⟨w.heap.size, 4, none⟩ = some (.int .i64 u.fail) := five_at (unhide Q1) _ _ rfl
      have d4 : w4.cell? ⟨w.heap.size + 1, 4, none⟩ = some (.int .i64 0) := five_at (unhide Q2) _ _ rfl
      have f0 := five_f (unhide Q1) 0
      have g0 := five_f (unhide Q2) 0
      have f1 := five_f (unhide Q1) 1
      have g1 := five_f (unhide Q2) 1
      have f2 := five_f (unhide Q1) 2
      have g2 := five_f (unhide Q2) 2
      have f3 := five_f (unhide Q1) 3
      have g3 := five_f (unhide Q2) 3
      have f4 := five_f (unhide Q1) 4
      have g4 := five_f (unhide Q2) 4
      cases m1 : (u.kind == 1)
      · cases m2 : (u.kind == 2)
        · cases m3 : (u.kind == 3)
          · go_wp2
            go_ret2
            first | exact ⟨pair_n ((unhide E).trans (congrArg (fun t => (t, (0 : Int))) (same4 u (bl u.kind) m1 m2 m3))), unhide HB2⟩ | exact ⟨pair_n ((unhide E).trans (congrArg (fun t => (t, (0 : Int))) (same4 u (bl u.kind) m1 m2 m3))), (unhide HB2).drew⟩
          · cases t1 : u.tr
            · go_wp2
              go_ret2
              first | exact ⟨pair_n ((unhide E).trans (congrArg (fun t => (t, (0 : Int))) (same3 u (bl u.kind) m1 m2 m3 _ _ t1 rfl))), unhide HB2⟩ | exact ⟨pair_n ((unhide E).trans (congrArg (fun t => (t, (0 : Int))) (same3 u (bl u.kind) m1 m2 m3 _ _ t1 rfl))), (unhide HB2).drew⟩
            · go_wp2
              go_ret2
              first | exact ⟨pair_n ((unhide E).trans (congrArg (fun t => (t, (0 : Int))) (same3 u (bl u.kind) m1 m2 m3 _ _ t1 rfl))), unhide HB2⟩ | exact ⟨pair_n ((unhide E).trans (congrArg (fun t => (t, (0 : Int))) (same3 u (bl u.kind) m1 m2 m3 _ _ t1 rfl))), (unhide HB2).drew⟩
        · go_wp2_with fail
          refine (lower_ref _ _ (by first | (have := unhide HU; omega) | decide)).mono ?_
          rintro e w5 ⟨rfl, b5⟩
          have d2' : w5.cell? ⟨w.heap.size + 1, 2, none⟩ = some (.string ⟨#[]⟩) := five_at (five_below (unhide Q2) b5 (five_lt (unhide Q2))) _ _ rfl
          have HB5 := hide (below_nx (unhide HB2) b5)
          clear b5
          go_wp2_with fail
          refine (lower_ref _ _ (by first | (have := unhide HX; omega) | decide)).mono ?_
          rintro e w6 ⟨rfl, b6⟩
          have HB6 := hide (below_nx (unhide HB5) b6)
          clear b6
          go_wp2_with fail
          refine (texts_ref _ _ _ (by rw [mapB_size]; first | (have := unhide HU; omega) | decide) (by rw [mapB_size]; first | (have := unhide HX; omega) | decide)).mono ?_
          rintro e w7 ⟨rfl, b7⟩
          have HB7 := hide (below_nx (unhide HB6) b7)
          clear b7
          go_wp2
          go_ret2
          exact ⟨pair_n ((unhide E).trans (congrArg (fun t => (t, (0 : Int))) (same2 u (bl u.kind) m1 m2))), unhide HB7⟩
      · go_wp2_with fail
        refine (numbers_ref _ _ _).mono ?_
        rintro e w5 ⟨rfl, rfl⟩
        go_wp2
        go_ret2
        first | exact ⟨pair_n ((unhide E).trans (congrArg (fun t => (t, (0 : Int))) (same1 u (bl u.kind) m1))), unhide HB2⟩ | exact ⟨pair_n ((unhide E).trans (congrArg (fun t => (t, (0 : Int))) (same1 u (bl u.kind) m1))), (unhide HB2).drew⟩
  · go_upto_region 9 with fail
    replace HB2 := hide (below_five (unhide HB2) (B := w.heap.size) (by omega) (.int .i64 x.kind) (.int .i64 0) (.string ⟨#[]⟩) (.bool false) (.int .i64 0))
    replace Q2 := hide (five_other (unhide Q2) (w.heap.size) (by omega) (.int .i64 x.kind) (.int .i64 0) (.string ⟨#[]⟩) (.bool false) (.int .i64 0))
    replace Q1 := hide (five_set (unhide Q1) (.int .i64 x.kind) (.int .i64 0) (.string ⟨#[]⟩) (.bool false) (.int .i64 0))
    generalize hw : (((((w3.setCell ⟨w.heap.size, 0, none⟩ (.int .i64 x.kind)).setCell ⟨w.heap.size, 1, none⟩ (.int .i64 0)).setCell ⟨w.heap.size, 2, none⟩ (.string ⟨#[]⟩)).setCell ⟨w.heap.size, 3, none⟩ (.bool false)).setCell ⟨w.heap.size, 4, none⟩ (.int .i64 0)) = w4 at HB2 Q1 Q2 ⊢
    clear hw
    clear c0 d0 f0 g0 c1 d1 f1 g1 c2 d2 f2 g2 c3 d3 f3 g3 c4 d4 f4 g4
    have c0 : w4.cell? ⟨w.heap.size, 0, none⟩ = some (.int .i64 x.kind) := five_at (unhide Q1) _ _ rfl
    have d0 : w4.cell? ⟨w.heap.size + 1, 0, none⟩ = some (.int .i64 x.kind) := five_at (unhide Q2) _ _ rfl
    have c1 : w4.cell? ⟨w.heap.size, 1, none⟩ = some (.int .i64 0) := five_at (unhide Q1) _ _ rfl
    have d1 : w4.cell? ⟨w.heap.size + 1, 1, none⟩ = some (.int .i64 x.num) := five_at (unhide Q2) _ _ rfl
    have c2 : w4.cell? ⟨w.heap.size, 2, none⟩ = some (.string ⟨#[]⟩) := five_at (unhide Q1) _ _ rfl
    have d2 : w4.cell? ⟨w.heap.size + 1, 2, none⟩ = some (.string x.text) := five_at (unhide Q2) _ _ rfl
    have c3 : w4.cell? ⟨w.heap.size, 3, none⟩ = some (.bool false) := five_at (unhide Q1) _ _ rfl
    have d3 : w4.cell? ⟨w.heap.size + 1, 3, none⟩ = some (.bool x.tr) := five_at (unhide Q2) _ _ rfl
    have c4 : w4.cell? ⟨w.heap.size, 4, none⟩ = some (.int .i64 0) := five_at (unhide Q1) _ _ rfl
    have d4 : w4.cell? ⟨w.heap.size + 1, 4, none⟩ = some (.int .i64 x.fail) := five_at (unhide Q2) _ _ rfl
    have f0 := five_f (unhide Q1) 0
    have g0 := five_f (unhide Q2) 0
    have f1 := five_f (unhide Q1) 1
    have g1 := five_f (unhide Q2) 1
    have f2 := five_f (unhide Q1) 2
    have g2 := five_f (unhide Q2) 2
    have f3 := five_f (unhide Q1) 3
    have g3 := five_f (unhide Q2) 3
    have f4 := five_f (unhide Q1) 4
    have g4 := five_f (unhide Q2) 4
    cases k5 : (x.kind == 0)
    · have E := hide (ord_a0 u x k1 k2 k3 k5)
      cases m1 : (x.kind == 1)
      · cases m2 : (x.kind == 2)
        · cases m3 : (x.kind == 3)
          · go_wp2
            go_ret2
            first | exact ⟨pair_n ((unhide E).trans (congrArg (fun t => (t, (0 : Int))) (same4 (bl x.kind) x m1 m2 m3))), unhide HB2⟩ | exact ⟨pair_n ((unhide E).trans (congrArg (fun t => (t, (0 : Int))) (same4 (bl x.kind) x m1 m2 m3))), (unhide HB2).drew⟩
          · cases t1 : x.tr
            · go_wp2
              go_ret2
              first | exact ⟨pair_n ((unhide E).trans (congrArg (fun t => (t, (0 : Int))) (same3 (bl x.kind) x m1 m2 m3 _ _ rfl t1))), unhide HB2⟩ | exact ⟨pair_n ((unhide E).trans (congrArg (fun t => (t, (0 : Int))) (same3 (bl x.kind) x m1 m2 m3 _ _ rfl t1))), (unhide HB2).drew⟩
            · go_wp2
              go_ret2
              first | exact ⟨pair_n ((unhide E).trans (congrArg (fun t => (t, (0 : Int))) (same3 (bl x.kind) x m1 m2 m3 _ _ rfl t1))), unhide HB2⟩ | exact ⟨pair_n ((unhide E).trans (congrArg (fun t => (t, (0 : Int))) (same3 (bl x.kind) x m1 m2 m3 _ _ rfl t1))), (unhide HB2).drew⟩
        · go_wp2_with fail
          refine (lower_ref _ _ (by first | (have := unhide HU; omega) | decide)).mono ?_
          rintro e w5 ⟨rfl, b5⟩
          have d2' : w5.cell? ⟨w.heap.size + 1, 2, none⟩ = some (.string x.text) := five_at (five_below (unhide Q2) b5 (five_lt (unhide Q2))) _ _ rfl
          have HB5 := hide (below_nx (unhide HB2) b5)
          clear b5
          go_wp2_with fail
          refine (lower_ref _ _ (by first | (have := unhide HX; omega) | decide)).mono ?_
          rintro e w6 ⟨rfl, b6⟩
          have HB6 := hide (below_nx (unhide HB5) b6)
          clear b6
          go_wp2_with fail
          refine (texts_ref _ _ _ (by rw [mapB_size]; first | (have := unhide HU; omega) | decide) (by rw [mapB_size]; first | (have := unhide HX; omega) | decide)).mono ?_
          rintro e w7 ⟨rfl, b7⟩
          have HB7 := hide (below_nx (unhide HB6) b7)
          clear b7
          go_wp2
          go_ret2
          exact ⟨pair_n ((unhide E).trans (congrArg (fun t => (t, (0 : Int))) (same2 (bl x.kind) x m1 m2))), unhide HB7⟩
      · go_wp2_with fail
        refine (numbers_ref _ _ _).mono ?_
        rintro e w5 ⟨rfl, rfl⟩
        go_wp2
        go_ret2
        first | exact ⟨pair_n ((unhide E).trans (congrArg (fun t => (t, (0 : Int))) (same1 (bl x.kind) x m1))), unhide HB2⟩ | exact ⟨pair_n ((unhide E).trans (congrArg (fun t => (t, (0 : Int))) (same1 (bl x.kind) x m1))), (unhide HB2).drew⟩
    · have E := hide (ord_00 u x k1 k2 k3 k5)
      go_upto_region 11 with fail
      replace HB2 := hide (below_five (unhide HB2) (B := w.heap.size + 1) (by omega) (.int .i64 x.kind) (.int .i64 0) (.string ⟨#[]⟩) (.bool false) (.int .i64 0))
      replace Q1 := hide (five_other (unhide Q1) (w.heap.size + 1) (by omega) (.int .i64 x.kind) (.int .i64 0) (.string ⟨#[]⟩) (.bool false) (.int .i64 0))
      replace Q2 := hide (five_set (unhide Q2) (.int .i64 x.kind) (.int .i64 0) (.string ⟨#[]⟩) (.bool false) (.int .i64 0))
      generalize hw : (((((w4.setCell ⟨w.heap.size + 1, 0, none⟩ (.int .i64 x.kind)).setCell ⟨w.heap.size + 1, 1, none⟩ (.int .i64 0)).setCell ⟨w.heap.size + 1, 2, none⟩ (.string ⟨#[]⟩)).setCell ⟨w.heap.size + 1, 3, none⟩ (.bool false)).setCell ⟨w.heap.size + 1, 4, none⟩ (.int .i64 0)) = w5 at HB2 Q1 Q2 ⊢
      clear hw
      clear c0 d0 f0 g0 c1 d1 f1 g1 c2 d2 f2 g2 c3 d3 f3 g3 c4 d4 f4 g4
      have c0 : w5.cell? ⟨w.heap.size, 0, none⟩ = some (.int .i64 x.kind) := five_at (unhide Q1) _ _ rfl
      have d0 : w5.cell? ⟨w.heap.size + 1, 0, none⟩ = some (.int .i64 x.kind) := five_at (unhide Q2) _ _ rfl
      have c1 : w5.cell? ⟨w.heap.size, 1, none⟩ = some (.int .i64 0) := five_at (unhide Q1) _ _ rfl
      have d1 : w5.cell? ⟨w.heap.size + 1, 1, none⟩ = some (.int .i64 0) := five_at (unhide Q2) _ _ rfl
      have c2 : w5.cell? ⟨w.heap.size, 2, none⟩ = some (.string ⟨#[]⟩) := five_at (unhide Q1) _ _ rfl
      have d2 : w5.cell? ⟨w.heap.size + 1, 2, none⟩ = some (.string ⟨#[]⟩) := five_at (unhide Q2) _ _ rfl
      have c3 : w5.cell? ⟨w.heap.size, 3, none⟩ = some (.bool false) := five_at (unhide Q1) _ _ rfl
      have d3 : w5.cell? ⟨w.heap.size + 1, 3, none⟩ = some (.bool false) := five_at (unhide Q2) _ _ rfl
      have c4 : w5.cell? ⟨w.heap.size, 4, none⟩ = some (.int .i64 0) := five_at (unhide Q1) _ _ rfl
      have d4 : w5.cell? ⟨w.heap.size + 1, 4, none⟩ = some (.int .i64 0) := five_at (unhide Q2) _ _ rfl
      have f0 := five_f (unhide Q1) 0
      have g0 := five_f (unhide Q2) 0
      have f1 := five_f (unhide Q1) 1
      have g1 := five_f (unhide Q2) 1
      have f2 := five_f (unhide Q1) 2
      have g2 := five_f (unhide Q2) 2
      have f3 := five_f (unhide Q1) 3
      have g3 := five_f (unhide Q2) 3
      have f4 := five_f (unhide Q1) 4
      have g4 := five_f (unhide Q2) 4
      have k0 : x.kind = 0 := by rw [beq_iff_eq] at k5; exact k5
      have m1 : (x.kind == 1) = false := by rw [k0]; rfl
      have m2 : (x.kind == 2) = false := by rw [k0]; rfl
      have m3 : (x.kind == 3) = false := by rw [k0]; rfl
      clear k0
      go_wp2
      go_ret2
      first | exact ⟨pair_n (unhide E), unhide HB2⟩ | exact ⟨pair_n (unhide E), (unhide HB2).drew⟩

theorem order_ref (a b : Vl) (w : World) (ha : a.text.size ≤ 1000) (hb : b.text.size ≤ 1000) :
    Calls Tryz.prog 36 #[.agg a.cells, .agg b.cells] w fun e w' => e = .returned (.tuple #[.int .i64 (ordV3 (vSound a) (vSound b)).1, .int .i64 (ordV3 (vSound a) (vSound b)).2]) ∧ Below w.heap.size w w' := by
  by_cases k1 : (vSound a).kind = 4
  · exact order_err a b w ha hb (Or.inl k1)
  · by_cases k2 : (vSound b).kind = 4
    · exact order_err a b w ha hb (Or.inr k2)
    · exact order_ne a b w ha hb _ _ rfl rfl (by rw [beq_eq_false_iff_ne]; exact k1) (by rw [beq_eq_false_iff_ne]; exact k2)
end Go.Proofs.YtbeijnflfmjgfaaGreatDoor
