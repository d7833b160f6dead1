/- Which of two values comes first, as the program reckons it. -/
import Derived.BigQuiet
import Derived.BigRegion
import Derived.Carry
import Derived.Deep.AppendLies
import Derived.Deep.CutBlock
import Derived.Deep.CutRange
import Derived.Deep.DeepFit
import Derived.Deep.DeepHandedRow
import Derived.Deep.QuietTactic
import Derived.Deep.RegionHeld3
import Derived.Deep.RegionWith
import Derived.Deep.Slices
import Derived.Deep.WholeRow
import Derived.LaidSub
import Derived.Laws.Bits64b
import Derived.Laws.BitsAllLaws
import Derived.Laws.CopyOwn
import Derived.Laws.FloatArith
import Derived.Laws.IdiomStrings
import Derived.Laws.OwnMore
import Derived.Laws.Rows
import Derived.Laws.StructEq
import Derived.Laws.Tables
import Derived.Lay
import Derived.Lib.BitFns
import Derived.Lib.IndexBytes
import Derived.Lib.ItoaMem
import Derived.Lib.ItoaNum
import Derived.Lib.LaidTab
import Derived.Lib.TrimByte
import Derived.Lib.Walk
import Derived.OpenShut
import Derived.OwnWalk
import Derived.ProofKit
import Derived.SevenTiedAt
import Derived.Shelf.Bits.Mul64
import Derived.Shelf.LaysM
import Derived.Shelf.Small.Bits
import Derived.Shelf.Small.Strs
import Derived.Shelf.Small.Wraps
import Derived.Shelf.Strconv.Itoa0
import Derived.Shelf.Strconv.Itoa1
import Derived.Shelf.Strconv.Itoa2
import Derived.Shelf.Strings.AsciiSet
import Derived.Shelf.Strings.Cut
import Derived.Shelf.Strings.Prefix
import Derived.Shelf.Strings.Search1
import Derived.Shelf.Strings.Search2
import Derived.Shelf.Strings.Shaped
import Derived.Shelf.Strings.Trim
import Derived.Stop.Joined
import Derived.Test.YtbeijnflfmjgfaaGreatDoorCards
import Derived.Test.YtbeijnflfmjgfaaGreatDoorProg
import Derived.Test.YtbeijnflfmjgfaaGreatDoorRows
import Derived.Test.YtbeijnflfmjgfaaGreatDoorTie
import Derived.WalkKit
import Derived.WalkLawsBesides
import Derived.WalkSmall
import Derived.WalkSpells
import Ieee.Arith
import Derived.Test.YtbeijnflfmjgfaaGreatDoorZoAA
import Derived.Test.YtbeijnflfmjgfaaGreatDoorZoAB
import Derived.Test.YtbeijnflfmjgfaaGreatDoorZoAC
import Derived.Test.YtbeijnflfmjgfaaGreatDoorZoAD
import Derived.Test.YtbeijnflfmjgfaaGreatDoorZoAE
import Derived.Test.YtbeijnflfmjgfaaGreatDoorZoAF
import Derived.Test.YtbeijnflfmjgfaaGreatDoorZoAG
import Derived.Test.YtbeijnflfmjgfaaGreatDoorZoAL
import Derived.Test.YtbeijnflfmjgfaaGreatDoorZoAH
import Derived.Test.YtbeijnflfmjgfaaGreatDoorZoAI
import Derived.Test.YtbeijnflfmjgfaaGreatDoorZoAJ
import Derived.Test.YtbeijnflfmjgfaaGreatDoorZoAK
namespace Go.Proofs.YtbeijnflfmjgfaaGreatDoor
open Go.RowKit

theorem good_kind (x : Vl) (h : vGood x = true) : x.kind = 0 ∨ x.kind = 1 ∨ x.kind = 2 ∨ x.kind = 3 ∨ x.kind = 4 := by
  obtain ⟨k, n, s, b, f⟩ := x
  by_cases k0 : k = 0
  · exact Or.inl k0
  · by_cases k1 : k = 1
    · exact Or.inr (Or.inl k1)
    · by_cases k2 : k = 2
      · exact Or.inr (Or.inr (Or.inl k2))
      · by_cases k3 : k = 3
        · exact Or.inr (Or.inr (Or.inr (Or.inl k3)))
        · by_cases k4 : k = 4
          · exact Or.inr (Or.inr (Or.inr (Or.inr k4)))
          · rw [good_else k n s b f k0 k1 k2 k3 k4] at h; cases h
theorem bl_good (k : Int) (h : k = 0 ∨ k = 1 ∨ k = 2 ∨ k = 3) : vGood (bl k) = true := by
  rcases h with rfl | rfl | rfl | rfl <;> decide +kernel
theorem bes_good (u x : Vl) (hu : vGood u = true) (hx : vGood x = true) (k2 : x.kind ≠ 4) : vGood (besV u x) = true := by
  unfold besV
  by_cases h : u.kind = 0
  · rw [if_pos h]
    exact bl_good x.kind (by have := good_kind x hx; omega)
  · rw [if_neg h]; exact hu
theorem sound_of (u : Vl) (h : vGood u = true) : vSound u = u := by unfold vSound; rw [if_pos h]
theorem bes_size (u x : Vl) (hu : u.text.size ≤ 1000) : (besV u x).text.size ≤ 1000 := by
  unfold besV
  by_cases h : u.kind = 0
  · rw [if_pos h]; show noText.size ≤ 1000; decide
  · rw [if_neg h]; exact hu
def ordP (U X : Vl) : Int := if U.kind = X.kind then (if U.kind = 2 then ltL (mapB lowC U.text).data.toList (mapB lowC X.text).data.toList else cmpV (asNumV U).1 (asNumV X).1) else cmpV U.kind X.kind
theorem cmp00 : cmpV 0 0 = 0 := by decide
theorem cmp01 : cmpV 0 10000 = -1 := by decide
theorem cmp10 : cmpV 10000 0 = 1 := by decide
theorem cmp11 : cmpV 10000 10000 = 0 := by decide
theorem ord_prog (u x : Vl) (hu : vGood u = true) (hx : vGood x = true) (k1 : u.kind ≠ 4) (k2 : x.kind ≠ 4) : ordV3 u x = (ordP (besV u x) (besV x u), 0) := by
  have g1 := good_kind u hu
  have g2 := good_kind x hx
  clear hu hx
  obtain ⟨k, n, s, b, f⟩ := u
  obtain ⟨k', n', s', b', f'⟩ := x
  simp only [] at g1 g2 k1 k2
  have h1 : k = 0 ∨ k = 1 ∨ k = 2 ∨ k = 3 := by omega
  have h2 : k' = 0 ∨ k' = 1 ∨ k' = 2 ∨ k' = 3 := by omega
  clear g1 g2 k1 k2
  rcases h1 with rfl | rfl | rfl | rfl <;> rcases h2 with rfl | rfl | rfl | rfl <;> cases b <;> cases b' <;> simp [ordV3, besV, bl, sameV, ordP, asNumV, cmp00, cmp01, cmp10, cmp11]
theorem ordP_ne (U X : Vl) (h : (U.kind == X.kind) = false) : ordP U X = cmpV U.kind X.kind := by
  unfold ordP; rw [if_neg (by rw [beq_eq_false_iff_ne] at h; exact h)]
theorem ordP_text (U X : Vl) (h : (U.kind == X.kind) = true) (h2 : (U.kind == 2) = true) : ordP U X = ltL (mapB lowC U.text).data.toList (mapB lowC X.text).data.toList := by
  rw [beq_iff_eq] at h h2
  unfold ordP; rw [if_pos h, if_pos h2]
theorem ordP_num (U X : Vl) (h : (U.kind == X.kind) = true) (h2 : (U.kind == 2) = false) : ordP U X = cmpV (asNumV U).1 (asNumV X).1 := by
  rw [beq_iff_eq] at h; rw [beq_eq_false_iff_ne] at h2
  unfold ordP; rw [if_pos h, if_neg h2]

end Go.Proofs.YtbeijnflfmjgfaaGreatDoor

namespace Go.Proofs.YtbeijnflfmjgfaaGreatDoor
open Go.RowKit

theorem bytes_ext9 {s t : ByteArray} (h : s.data.toList = t.data.toList) : s = t := by
  obtain ⟨⟨s⟩⟩ := s
  obtain ⟨⟨t⟩⟩ := t
  simp only [] at h
  rw [h]
theorem no_text9 (s : ByteArray) (h : s.toList = []) : s = noText := bytes_ext9 (by rw [ByteArray.toList_eq] at h; rw [h])
theorem app_list9 (s t : ByteArray) : (s ++ t).data.toList = s.data.toList ++ t.data.toList := by
  rw [ByteArray.data_append, Array.toList_append]
theorem good_form9 (X : Vl) (h : vGood X = true) :
    X = ⟨0, 0, noText, false, 0⟩ ∨ (∃ n, goodB n = true ∧ X = ⟨1, n, noText, false, 0⟩) ∨ (∃ s : ByteArray, s.size ≤ 255 ∧ X = ⟨2, 0, s, false, 0⟩) ∨ (∃ b, X = ⟨3, 0, noText, b, 0⟩) ∨ (∃ f, 1 ≤ f ∧ f ≤ 8 ∧ X = ⟨4, 0, noText, false, f⟩) := by
  have hk := good_kind X h
  obtain ⟨k, n, s, b, f⟩ := X
  simp only [] at hk
  rcases hk with rfl | rfl | rfl | rfl | rfl
  · rw [vGood0] at h
    simp at h
    obtain ⟨⟨⟨h1, h2⟩, h3⟩, h4⟩ := h
    subst h1 h3 h4
    exact Or.inl (by rw [no_text9 s h2])
  · rw [vGood1] at h
    simp at h
    obtain ⟨⟨⟨h1, h2⟩, h3⟩, h4⟩ := h
    subst h3 h4
    exact Or.inr (Or.inl ⟨n, h1, by rw [no_text9 s h2]⟩)
  · rw [vGood2] at h
    simp at h
    obtain ⟨⟨⟨h1, h2⟩, h3⟩, h4⟩ := h
    subst h1 h3 h4
    exact Or.inr (Or.inr (Or.inl ⟨s, h2, rfl⟩))
  · rw [vGood3] at h
    simp at h
    obtain ⟨⟨h1, h2⟩, h3⟩ := h
    subst h1 h3
    exact Or.inr (Or.inr (Or.inr (Or.inl ⟨b, by rw [no_text9 s h2]⟩)))
  · rw [vGood4] at h
    simp at h
    obtain ⟨⟨⟨⟨h1, h2⟩, h3⟩, h4⟩, h5⟩ := h
    subst h1 h3
    exact Or.inr (Or.inr (Or.inr (Or.inr ⟨f, h4, h5, by rw [no_text9 s h2]⟩)))
theorem sgn_range (b : Bool) (p : Nat) : -9000000000000000000 ≤ sgnN b p ∧ sgnN b p ≤ 9000000000000000000 := by
  unfold sgnN
  split
  · omega
  · split <;> omega
theorem parse_range (l : List UInt8) : -9000000000000000000 ≤ (parseR l).1 ∧ (parseR l).1 ≤ 9000000000000000000 := by
  unfold parseR
  split
  · split
    · exact sgn_range _ _
    · simp only []; omega
  · simp only []; omega
theorem num_range (v : Vl) : ((asNumV (vSound v)).2 = 0 ∨ 1 ≤ (asNumV (vSound v)).2 ∧ (asNumV (vSound v)).2 ≤ 8) ∧ -9000000000000000000 ≤ (asNumV (vSound v)).1 ∧ (asNumV (vSound v)).1 ≤ 9000000000000000000 := by
  rcases good_form9 (vSound v) (sound_good v) with h | ⟨n, hn, h⟩ | ⟨s, hs, h⟩ | ⟨b, h⟩ | ⟨f, h1, h8, h⟩
  · rw [h]; unfold asNumV; simp
  · rw [h]
    rw [goodB_iff] at hn
    exact ⟨Or.inl rfl, hn.1, hn.2⟩
  · rw [h]
    show ((if ((parseR (bareV s).data.toList).2 != 0) = true then ((0 : Int), (3 : Int)) else ((parseR (bareV s).data.toList).1, 0)).2 = 0 ∨ _) ∧ _
    have hp := parse_range (bareV s).data.toList
    unfold asNumV
    simp only []
    by_cases hq : ((parseR (bareV s).data.toList).2 != 0) = true
    · simp [hq]
    · simp [hq]; exact hp
  · rw [h]; cases b
    · exact ⟨Or.inl rfl, by decide, by decide⟩
    · exact ⟨Or.inl rfl, by decide, by decide⟩
  · rw [h]
    exact ⟨Or.inr ⟨h1, h8⟩, show (-9000000000000000000 : Int) ≤ 0 by decide, show (0 : Int) ≤ 9000000000000000000 by decide⟩
theorem text_range (v : Vl) : ((asTextV (vSound v)).2 = 0 ∨ 1 ≤ (asTextV (vSound v)).2 ∧ (asTextV (vSound v)).2 ≤ 8) ∧ (asTextV (vSound v)).1.size ≤ 255 := by
  rcases good_form9 (vSound v) (sound_good v) with h | ⟨n, hn, h⟩ | ⟨s, hs, h⟩ | ⟨b, h⟩ | ⟨f, h1, h8, h⟩
  · rw [h]; exact ⟨Or.inl rfl, by decide⟩
  · rw [h]
    have := text_len n
    exact ⟨Or.inl rfl, by show (textL n).length ≤ 255; omega⟩
  · rw [h]; exact ⟨Or.inl rfl, hs⟩
  · rw [h]; cases b
    · exact ⟨Or.inl rfl, by decide⟩
    · exact ⟨Or.inl rfl, by decide⟩
  · rw [h]
    exact ⟨Or.inr ⟨h1, h8⟩, show noText.size ≤ 255 by decide⟩
end Go.Proofs.YtbeijnflfmjgfaaGreatDoor

namespace Go.Proofs.YtbeijnflfmjgfaaGreatDoor
open Go.RowKit

theorem results_row1b {P : Program} {fn : Func} {p a : Tmp} {ty : TypeId} (h : fn.results = #[.cell p ty, .tmp a]) (tmps : Array Value) (w : World) (g : Nat) (t : TypeId) (cs : Array Value) (fr : Nat × Nat) (d : TypeDesc)
    (hp : tmps.getD p undef = .pointer (some ⟨g, 0, none⟩)) (hg : w.heap[g]? = some (.cells cs t fr))
    (hu : P.underlying ty = some d) (hd : (match d with | .struct _ | .array _ _ => true | _ => false) = true) (hi : (P.info? ty).map (·.size) = some cs.size)
    (x : Value) (hx : tmps.getD a undef = x) :
    (results fn tmps).run P w = .ok (.tuple #[.agg cs, x]) w := by
  have hp' : tmps[p]?.getD undef = .pointer (some ⟨g, 0, none⟩) := by simpa using hp
  have hx' : tmps[a]?.getD undef = x := by simpa using hx
  simp [results, h, hp', hx', asAddr, run_loadVar_row w g t ty cs fr d hg hu hd hi]
theorem line_lits {s : List UInt8} (h : 3 ≤ lineL s) : s = [43] ∨ s = [45] ∨ s = [42] ∨ s = [47] ∨ s = [94] := by
  unfold lineL at h
  split at h
  · omega
  split at h
  · omega
  split at h
  · rename_i h1; rcases h1 with h1 | h1 <;> simp [h1]
  split at h
  · rename_i h1; rcases h1 with h1 | h1 <;> simp [h1]
  split at h
  · rename_i h1; simp [h1]
  · omega
theorem line_two {s : List UInt8} (h : lineL s = 2) : s = [38] := by
  unfold lineL at h
  split at h
  · omega
  split at h
  · assumption
  repeat' split at h
  all_goals omega
end Go.Proofs.YtbeijnflfmjgfaaGreatDoor

namespace Go.Proofs.YtbeijnflfmjgfaaGreatDoor
open Go.RowKit

def numsV : List Vl → Int × List Int
  | [] => (0, [])
  | v :: vs => if (asNumV (vSound v)).2 ≠ 0 then ((asNumV (vSound v)).2, []) else if (numsV vs).1 ≠ 0 then ((numsV vs).1, []) else (0, (asNumV (vSound v)).1 :: (numsV vs).2)
def callN (s : List UInt8) : List Int → Vl
  | [a] => oneV s a
  | [a, b] => twoV s a b
  | _ => vE 3
def callV (s : List UInt8) (vs : List Vl) : Vl :=
  if takesL s = 0 then zV else if vs.length ≠ takesL s then vE 3 else if (numsV vs).1 ≠ 0 then vE (numsV vs).1 else callN s (numsV vs).2
def callB (s : List UInt8) : Bool := decide (takesL s ≠ 0)
def ValsAt (w : World) (v : Value) (vs : List Vl) : Prop :=
  ∃ ad cap, v = .slice ad vs.length cap ∧ (0 < vs.length → ∃ b o, ad = some ⟨b, o, none⟩ ∧ b < w.heap.size ∧
    ∀ i x, vs[i]? = some x → w.cell? ⟨b, o + i * 5, none⟩ = some (.int .i64 x.kind) ∧ w.cell? ⟨b, o + i * 5 + 1, none⟩ = some (.int .i64 x.num) ∧ w.cell? ⟨b, o + i * 5 + 2, none⟩ = some (.string x.text) ∧
      w.cell? ⟨b, o + i * 5 + 3, none⟩ = some (.bool x.tr) ∧ w.cell? ⟨b, o + i * 5 + 4, none⟩ = some (.int .i64 x.fail))
theorem vals_below {w w' : World} {B : Nat} {v : Value} {vs : List Vl} (h : ValsAt w v vs) (hB : w.heap.size ≤ B) (hb : Below B w w') : ValsAt w' v vs := by
  obtain ⟨ad, cap, e, k⟩ := h
  refine ⟨ad, cap, e, fun hl => ?_⟩
  obtain ⟨b, o, e2, hlt, hc⟩ := k hl
  refine ⟨b, o, e2, Nat.lt_of_lt_of_le hlt hb.size, fun i x hx => ?_⟩
  have c : ∀ j, w'.cell? ⟨b, j, none⟩ = w.cell? ⟨b, j, none⟩ := fun j => hb.cell (p := ⟨b, j, none⟩) (Nat.lt_of_lt_of_le hlt hB)
  rw [c, c, c, c, c]
  exact hc i x hx
theorem takes_le (s : List UInt8) : takesL s ≤ 2 := by
  unfold takesL
  repeat' split
  all_goals omega
theorem own_stepT {T : TypeId} {B : Nat} {w wr w1 : World} {v v' : Value} {zs : List Int} {k : Int} {o : Obj} (hb : Below B w wr) (hB : B ≤ wr.heap.size) (hown : wr.ownsRow B T 1 v zs.length (zs.map (Value.int .i64)))
    (hown' : w1.ownsRow B T 1 v' (zs.length + 1) (zs.map (Value.int .i64) ++ [.int .i64 k])) (hgrow : (wr.alloc o).grownBy w1 v.ownBlock) :
    w1.ownsRow B T 1 v' (zs ++ [k]).length ((zs ++ [k]).map (Value.int .i64)) ∧ Below B w w1 := by
  refine ⟨by simpa using hown', (hb.alloc hB o).grown hgrow (by simp; omega) ?_⟩
  intro j hj
  rcases hown.2 with ⟨rfl, _⟩ | ⟨g, cap, cur, rfl, hg, _⟩
  · cases hj
  · simp [Value.ownBlock] at hj; omega
theorem own_belowT {T : TypeId} {w w' : World} {B n z : Nat} {v : Value} {xs : List Value} (h : w.ownsRow B T z v n xs) (hb : Below w.heap.size w w') : w'.ownsRow B T z v n xs := by
  obtain ⟨h1, h2⟩ := h
  refine ⟨h1, ?_⟩
  rcases h2 with h2 | ⟨g, cap, cur, e, hg, hh, r1, r2, r3, r4⟩
  · exact Or.inl h2
  · have hlt : g < w.heap.size := by
      rcases Nat.lt_or_ge g w.heap.size with h' | h'
      · exact h'
      · rw [Array.getElem?_eq_none h'] at hh; cases hh
    exact Or.inr ⟨g, cap, cur, e, hg, by rw [hb.block g hlt]; exact hh, r1, r2, r3, r4⟩
theorem own_openT {T : TypeId} {w : World} {B n z : Nat} {v : Value} {xs : List Value} (h : w.ownsRow B T z v n xs) (hn : 0 < n) : ∃ g cap, v = .slice (some ⟨g, 0, none⟩) n cap := by
  rcases h.2 with ⟨_, e⟩ | ⟨g, cap, cur, e, _⟩
  · omega
  · exact ⟨g, cap, e⟩
theorem infoI : (Tryz.prog.info? 2).map (fun i => (i.zero, i.size, i.bytes)) = some (some (.int .i64 0), 1, 8) := by kernel_rfl
def NumsIn (vs : List Vl) (zs : List Int) : Prop :=
  (∀ z ∈ zs, -9000000000000000000 ≤ z ∧ z ≤ 9000000000000000000) ∧ (numsV vs).1 = (numsV (vs.drop zs.length)).1 ∧ ((numsV vs).1 = 0 → (numsV vs).2 = zs ++ (numsV (vs.drop zs.length)).2)
theorem nums_start (vs : List Vl) : NumsIn vs [] := ⟨fun z h => by simp at h, rfl, fun _ => rfl⟩
theorem drop_at {vs : List Vl} {j : Nat} {x : Vl} (h : vs[j]? = some x) : vs.drop j = x :: vs.drop (j + 1) := by
  obtain ⟨hj, hx⟩ := List.getElem?_eq_some_iff.1 h
  rw [← hx, List.getElem_cons_drop]
theorem nums_bad {vs : List Vl} {zs : List Int} {x : Vl} (h : NumsIn vs zs) (hx : vs[zs.length]? = some x) (hb : (asNumV (vSound x)).2 ≠ 0) : (numsV vs).1 = (asNumV (vSound x)).2 := by
  rw [h.2.1, drop_at hx, numsV, if_pos hb]
theorem nums_more {vs : List Vl} {zs : List Int} {x : Vl} (h : NumsIn vs zs) (hx : vs[zs.length]? = some x) (hb : (asNumV (vSound x)).2 = 0) : NumsIn vs (zs ++ [(asNumV (vSound x)).1]) := by
  obtain ⟨h1, h2, h3⟩ := h
  rw [drop_at hx, numsV, if_neg (by omega)] at h2 h3
  refine ⟨fun z hz => ?_, ?_, fun h0 => ?_⟩
  · rcases List.mem_append.1 hz with hz | hz
    · exact h1 z hz
    · rw [List.mem_singleton.1 hz]; exact (num_range x).2
  · rw [List.length_append, List.length_singleton, h2]
    split
    · rfl
    · rename_i hq; simp only []; omega
  · have h4 := h3 h0
    rw [h2] at h0
    rw [List.length_append, List.length_singleton, h4]
    split
    · rename_i hq; rw [if_pos hq] at h0; exact absurd h0 hq
    · rw [List.append_assoc]; rfl
theorem nums_end {vs : List Vl} {zs : List Int} (h : NumsIn vs zs) (hl : zs.length = vs.length) : (numsV vs).1 = 0 ∧ (numsV vs).2 = zs := by
  obtain ⟨h1, h2, h3⟩ := h
  rw [hl, List.drop_length] at h2 h3
  exact ⟨h2, by rw [h3 h2]; simp [numsV]⟩

set_option maxRecDepth 100000 in
set_option maxHeartbeats 16000000 in
theorem call9_ref (s : ByteArray) (va : Value) (vs : List Vl) (w : World) (hl : vs.length ≤ 1000) (hv : ∀ x ∈ vs, x.text.size ≤ 1000) (hva : ValsAt w va vs) :
    Calls Tryz.prog 22 #[.string s, va] w fun e w' => e = .returned (.tuple #[.agg (callV s.toList vs).cells, .bool (callB s.toList)]) ∧ Below w.heap.size w w' := by
  have HK := hide (fun w => takes_ref s w)
  have hk2 := takes_le s.toList
  obtain ⟨ad, cap, rfl, hrow⟩ := hva
  have HROW := hide hrow
  have HTX := hide hv
  clear hrow hv
  unfold callV callB
  obtain ⟨k, hk⟩ : ∃ k, takesL s.toList = k := ⟨_, rfl⟩
  rw [hk] at HK hk2 ⊢
  clear hk
  obtain ⟨L, hL⟩ : ∃ L, vs.length = L := ⟨_, rfl⟩
  rw [hL] at hl HROW ⊢
  have HL := hide hL
  clear hL
  by_cases k0 : k = 0
  · subst k0
    rw [if_pos rfl, show decide ((0 : Nat) ≠ 0) = false from rfl]
    unfold Vl.cells zV
    go_enter Tryz.func22, Tryz.ntmps22
    go_upto_region 1 with fail
    have HX := hide (five_new w 29 (.int .i64 0) (.int .i64 0) (.string ⟨#[]⟩) (.bool false) (.int .i64 0))
    have HB := hide (below_al w (.cells #[.int .i64 0, .int .i64 0, .string ⟨#[]⟩, .bool false, .int .i64 0] 29))
    generalize hW : w.alloc (.cells #[.int .i64 0, .int .i64 0, .string ⟨#[]⟩, .bool false, .int .i64 0] 29) = w1 at HX HB ⊢
    clear hW
    go_wp2_with fail
    refine (unhide HK _).mono ?_
    rintro e w2 ⟨rfl, rfl⟩
    obtain ⟨⟨⟨x0, c0⟩, ⟨x1, c1⟩, ⟨x2, c2⟩, ⟨x3, c3⟩, x4, c4⟩, f0, f1, f2, f3, f4⟩ := five_all (unhide HX)
    have HF := HX
    clear HX
    go_wp2
    refine bodyPost_ret (results_row1b rfl _ _ _ _ _ _ _ rfl (five_set (unhide HF) _ _ _ _ _).1 Tryz.underlying29 rfl (by exact infoRef) _ rfl) rfl ?_
    exact ⟨rfl, below_five (unhide HB) (by omega) _ _ _ _ _⟩
  rw [if_neg k0, decide_eq_true (show k ≠ 0 from k0)]
  have k0i : ¬ (k : Int) = 0 := by omega
  have k0b : ((k : Int) == 0) = false := by rw [beq_eq_false_iff_ne]; exact k0i
  by_cases hlk : L = k
  rotate_left
  · rw [if_pos hlk]
    have hlki : ¬ (L : Int) = (k : Int) := by omega
    have HC := hide (fun w => e9_ref 3 w (by omega) (by omega))
    generalize vE 3 = V at HC ⊢
    go_enter Tryz.func22, Tryz.ntmps22
    go_upto_region 1 with fail
    have HX := hide (five_new w 29 (.int .i64 0) (.int .i64 0) (.string ⟨#[]⟩) (.bool false) (.int .i64 0))
    have HB := hide (below_al w (.cells #[.int .i64 0, .int .i64 0, .string ⟨#[]⟩, .bool false, .int .i64 0] 29))
    generalize hW : w.alloc (.cells #[.int .i64 0, .int .i64 0, .string ⟨#[]⟩, .bool false, .int .i64 0] 29) = w1 at HX HB ⊢
    clear hW
    go_wp2_with fail
    refine (unhide HK _).mono ?_
    rintro e w2 ⟨rfl, rfl⟩
    go_wp2_with fail
    refine (unhide HC _).mono ?_
    rintro e wz ⟨rfl, bz⟩
    have hf := five_below (unhide HX) bz (five_lt (unhide HX))
    obtain ⟨⟨⟨x0, c0⟩, ⟨x1, c1⟩, ⟨x2, c2⟩, ⟨x3, c3⟩, x4, c4⟩, f0, f1, f2, f3, f4⟩ := five_all hf
    have HF := hide hf
    have HB := hide (below_nx (unhide HB) bz)
    clear hf bz
    unfold Vl.cells
    go_wp2
    refine bodyPost_ret (results_row1b rfl _ _ _ _ _ _ _ rfl (five_set (unhide HF) _ _ _ _ _).1 Tryz.underlying29 rfl (by exact infoRef) _ rfl) rfl ?_
    exact ⟨rfl, below_five (unhide HB) (by omega) _ _ _ _ _⟩
  subst hlk
  rw [if_neg (by omega)]
  obtain ⟨V, hV⟩ : ∃ V, (if (numsV vs).1 ≠ 0 then vE (numsV vs).1 else callN s.toList (numsV vs).2) = V := ⟨_, rfl⟩
  rw [hV]
  have HV := hide hV
  clear hV
  obtain ⟨i0, hi, hz0, hz1, hz2⟩ := info_parts infoI
  go_enter Tryz.func22, Tryz.ntmps22
  go_upto_region 1 with fail
  have HX := hide (five_new w 29 (.int .i64 0) (.int .i64 0) (.string ⟨#[]⟩) (.bool false) (.int .i64 0))
  have HB := hide (below_al w (.cells #[.int .i64 0, .int .i64 0, .string ⟨#[]⟩, .bool false, .int .i64 0] 29))
  generalize hW : w.alloc (.cells #[.int .i64 0, .int .i64 0, .string ⟨#[]⟩, .bool false, .int .i64 0] 29) = w1 at HX HB ⊢
  clear hW
  go_wp2_with fail
  refine (unhide HK _).mono ?_
  rintro e w2 ⟨rfl, rfl⟩
  go_wp2
  go_loopw [5, 7, 8, 9, 10] (fun _ v u _ _ wr => ∃ zs : List Int, u = .int .i64 (zs.length : Int) ∧ zs.length ≤ L ∧ Hid (wr.ownsRow w2.heap.size 2 1 v zs.length (zs.map (Value.int .i64))) ∧ Hid (Below w2.heap.size w2 wr) ∧ Hid (NumsIn vs zs)) (fun _ _ u _ _ _ => (L - intOf u).toNat)
  case atStart => exact ⟨[], rfl, Nat.zero_le _, hide (World.ownsRow_nil _ _ _ _), hide (Below.refl _ _), hide (nums_start vs)⟩
  case round =>
    obtain ⟨zs, rfl, hj, HO, HR, HI⟩ := hrel
    by_cases hlt : (zs.length : Int) < (L : Int)
    · obtain ⟨x, hx⟩ : ∃ x, vs[zs.length]? = some x := ⟨_, List.getElem?_eq_getElem (by rw [unhide HL]; omega)⟩
      obtain ⟨b, o, rfl, hb, hc⟩ := unhide HROW (by omega)
      have hbel : Below w.heap.size w wr := below_nx (unhide HB) (unhide HR)
      obtain ⟨c0, c1, c2, c3, c4⟩ := hc _ x hx
      rw [← hbel.cell (p := ⟨b, o + zs.length * 5, none⟩) hb] at c0
      rw [← hbel.cell (p := ⟨b, o + zs.length * 5 + 1, none⟩) hb] at c1
      rw [← hbel.cell (p := ⟨b, o + zs.length * 5 + 2, none⟩) hb] at c2
      rw [← hbel.cell (p := ⟨b, o + zs.length * 5 + 3, none⟩) hb] at c3
      rw [← hbel.cell (p := ⟨b, o + zs.length * 5 + 4, none⟩) hb] at c4
      have HN := hide (fun w => asnum_ref x w (unhide HTX x (List.mem_of_getElem? hx)))
      have NB := hide (fun h => nums_bad (unhide HI) hx h)
      have NM := hide (fun h => nums_more (unhide HI) hx h)
      have hr := num_range x
      obtain ⟨r, er⟩ : ∃ r, asNumV (vSound x) = r := ⟨_, rfl⟩
      rw [er] at HN NB NM hr
      clear er hx hc hbel
      obtain ⟨hr, r1, r2⟩ := hr
      unfold Vl.cells at HN
      go_wp2_with fail
      refine (unhide HN _).mono ?_
      rintro e w3 ⟨rfl, b3⟩
      have HR3 := hide (below_nx (unhide HR) b3)
      have HO3 : Hid (w3.ownsRow w2.heap.size 2 1 _ zs.length (zs.map (Value.int .i64))) := hide (own_belowT (unhide HO) b3)
      clear b3 c0 c1 c2 c3 c4
      by_cases h0 : r.2 = 0
      · have NN := hide (unhide NM h0)
        clear hr NB NM
        go_wp2_with (first
          | (at_builtin; refine wpList_append_own _ rfl _ _ 85 rfl w2.heap.size 2 i0 (.int .i64 0) 1 8 Tryz.underlying85 hi hz0 hz1 hz2 rfl (by decide) _ _ _ rfl ((unhide HO3).alloc _) ⟨w3.heap.size, 0, none⟩ 1 1 [.int .i64 r.1] rfl rfl (one_cell _ _ _) (one_one _) (by unfold maxLen; omega) (by omega) (by have := (unhide HR3).size; simp; omega) ?_)
          | go_in)
        intro v' wn hown' hgrow _
        have RS := hide (own_stepT (unhide HR3) (unhide HR3).size (unhide HO3) hown' hgrow)
        clear hown' hgrow
        go_wp2
        go_roundw
        case rel => exact ⟨zs ++ [r.1], int_eqv (by simp), by simp; omega, hide (unhide RS).1, hide (unhide RS).2, NN⟩
        case measure => simp [intOf]; omega
      · have hb0 : (r.2 == 0) = false := by rw [beq_eq_false_iff_ne]; exact h0
        have HC := hide (fun w => e9_ref r.2 w (by omega) (by omega))
        have hE := unhide HV
        rw [unhide NB h0, if_pos h0] at hE
        rw [hE] at HC
        have HX3 := hide (five_below (unhide HX) (unhide HR3) (five_lt (unhide HX)))
        have HB3 := hide (below_nx (unhide HB) (unhide HR3))
        clear hE hr NB NM
        go_wp2_with fail
        refine (unhide HC _).mono ?_
        rintro e wz ⟨rfl, bz⟩
        have hf := five_below (unhide HX3) bz (five_lt (unhide HX3))
        obtain ⟨⟨⟨x0, c0⟩, ⟨x1, c1⟩, ⟨x2, c2⟩, ⟨x3, c3⟩, x4, c4⟩, f0, f1, f2, f3, f4⟩ := five_all hf
        have HF := hide hf
        have HB := hide (below_nx (unhide HB3) bz)
        clear hf bz
        unfold Vl.cells
        go_wp2
        try simp only [Exit.inBlock, Exit.then]
        refine bodyPost_ret (results_row1b rfl _ _ _ _ _ _ _ rfl (five_set (unhide HF) _ _ _ _ _).1 Tryz.underlying29 rfl (by exact infoRef) _ rfl) rfl ?_
        exact ⟨rfl, below_five (unhide HB) (by omega) _ _ _ _ _⟩
    · have hzl : zs.length = L := by omega
      have hE := nums_end (unhide HI) (by rw [unhide HL]; exact hzl)
      have hV := unhide HV
      rw [hE.1, if_neg (by omega), hE.2] at hV
      have hzr := (unhide HI).1
      have HOZ := unhide HO
      replace HX := hide (five_below (unhide HX) (unhide HR) (five_lt (unhide HX)))
      replace HB := hide (below_nx (unhide HB) (unhide HR))
      clear HI HV hE HROW HTX HL HR
      by_cases hk1 : L = 1
      · obtain ⟨n1, rfl⟩ : ∃ n1, zs = [n1] := List.length_eq_one_iff.1 (by omega)
        have eC : oneV s.toList n1 = V := hV
        obtain ⟨z1, z2⟩ := hzr n1 (by simp)
        obtain ⟨g, lc, rfl⟩ := own_openT HOZ (by simp)
        have cz0 : wr.cell? ⟨g, 0, none⟩ = some (.int .i64 n1) := by have h := HOZ.cellAt 0 (by simp); simpa using h
        subst hk1
        clear hV hzr hzl hj hlt HOZ HO
        simp only [List.length_singleton]
        have HC := hide (fun w => one9_ref s n1 w (by omega) (by omega))
        rw [eC] at HC
        clear eC
        go_wp2_with fail
        refine (unhide HC _).mono ?_
        rintro e wz ⟨rfl, bz⟩
        have hf := five_below (unhide HX) bz (five_lt (unhide HX))
        obtain ⟨⟨⟨x0, c0⟩, ⟨x1, c1⟩, ⟨x2, c2⟩, ⟨x3, c3⟩, x4, c4⟩, f0, f1, f2, f3, f4⟩ := five_all hf
        have HF := hide hf
        have HB := hide (below_nx (unhide HB) bz)
        clear hf bz
        unfold Vl.cells
        go_wp2
        try simp only [Exit.inBlock, Exit.then]
        refine bodyPost_ret (results_row1b rfl _ _ _ _ _ _ _ rfl (five_set (unhide HF) _ _ _ _ _).1 Tryz.underlying29 rfl (by exact infoRef) _ rfl) rfl ?_
        exact ⟨rfl, below_five (unhide HB) (by omega) _ _ _ _ _⟩
      · have hk3 : L = 2 := by omega
        subst hk3
        obtain ⟨n1, n2, rfl⟩ : ∃ n1 n2, zs = [n1, n2] := by
          match zs, hzl with
          | [a, b], _ => exact ⟨a, b, rfl⟩
        have eC : twoV s.toList n1 n2 = V := hV
        obtain ⟨z1, z2⟩ := hzr n1 (by simp)
        obtain ⟨y1, y2⟩ := hzr n2 (by simp)
        obtain ⟨g, lc, rfl⟩ := own_openT HOZ (by simp)
        have cz0 : wr.cell? ⟨g, 0, none⟩ = some (.int .i64 n1) := by have h := HOZ.cellAt 0 (by simp); simpa using h
        have cz1 : wr.cell? ⟨g, 1, none⟩ = some (.int .i64 n2) := by have h := HOZ.cellAt 1 (by simp); simpa using h
        clear hV hzr hzl hj hlt HOZ HO
        simp only [List.length_cons, List.length_nil]
        have HC := hide (fun w => two9_ref s n1 n2 w (by omega) (by omega) (by omega) (by omega))
        rw [eC] at HC
        clear eC
        go_upto_region 16 with fail
        go_region_with (go_at_call 55; refine (unhide HC _).mono ?_; rintro e wz ⟨rfl, bz⟩; have hf := five_below (five_drew (unhide HX)) bz (five_lt (unhide HX)); obtain ⟨⟨⟨x0, c0⟩, ⟨x1, c1⟩, ⟨x2, c2⟩, ⟨x3, c3⟩, x4, c4⟩, f0, f1, f2, f3, f4⟩ := five_all hf; have HF := hide hf; have HB := hide (below_nx (unhide HB).drew bz); clear hf bz; unfold Vl.cells)
        all_goals (try simp only [Exit.then])
        all_goals (try go_wp2_with fail)
        all_goals (try simp only [Exit.then])
        all_goals refine bodyPost_ret (results_row1b rfl _ _ _ _ _ _ _ rfl (five_set (unhide HF) _ _ _ _ _).1 Tryz.underlying29 rfl (by exact infoRef) _ rfl) rfl ?_
        all_goals exact ⟨rfl, below_five (unhide HB) (by omega) _ _ _ _ _⟩
end Go.Proofs.YtbeijnflfmjgfaaGreatDoor

namespace Go.Proofs.YtbeijnflfmjgfaaGreatDoor
open Go.RowKit

set_option maxHeartbeats 2000000 in
theorem same9_law (u : Vl) (w : World) :
    Calls Tryz.prog 13 #[.agg u.cells, .agg u.cells] w fun e w' => e = .returned (.bool true) ∧ Below w.heap.size w w' := by
  unfold Vl.cells
  go_enter Tryz.func13, Tryz.ntmps13
  go_wp2
  go_ret
  exact ⟨rfl, below_al2 _ _ _⟩
set_option maxRecDepth 100000 in
set_option maxHeartbeats 2000000 in
theorem values9_law (v : Vl) (w : World) (hs : v.text.size ≤ maxLen) :
    Calls Tryz.prog 10 #[.agg v.cells] w fun e w' => e = .returned (.tuple #[.agg (cutV v).cells, .agg (cutV v).cells]) ∧ Below w.heap.size w w' := by
  obtain ⟨k, n, s, b, f⟩ := v
  unfold cutV Vl.cells
  simp only [] at hs ⊢
  by_cases hl : 300 < s.size
  · have e : cutT s = s.extract 0 300 := by unfold cutT; rw [if_pos hl]
    rw [e]
    clear e
    have hmin : min (s.size : Int) 300 = 300 := by omega
    go_enter Tryz.func10, Tryz.ntmps10
    go_wp2_with fail
    go_region
    all_goals (try go_wp2_with fail)
    refine bodyPost_ret (results_row2 rfl _ _ _ _ _ _ _ _ _ _ _ _ rfl (heap3_1 _ _ _ _) Tryz.underlying28 rfl infoVal rfl (heap3_2 _ _ _ _) Tryz.underlying29 rfl infoRef) rfl ?_
    first
      | exact ⟨rfl, below_al3d _ _ _ _⟩
      | exact ⟨by rw [hmin]; rfl, below_al3d _ _ _ _⟩
      | exact ⟨by simp [hmin], below_al3d _ _ _ _⟩
  · have e : cutT s = s := by unfold cutT; rw [if_neg hl]
    rw [e]
    clear e
    have hmin : min (s.size : Int) 300 = (s.size : Int) := by omega
    go_enter Tryz.func10, Tryz.ntmps10
    go_wp2_with fail
    go_region
    all_goals (try go_wp2_with fail)
    refine bodyPost_ret (results_row2 rfl _ _ _ _ _ _ _ _ _ _ _ _ rfl (heap3_1 _ _ _ _) Tryz.underlying28 rfl infoVal rfl (heap3_2 _ _ _ _) Tryz.underlying29 rfl infoRef) rfl ?_
    first
      | exact ⟨rfl, below_al3d _ _ _ _⟩
      | exact ⟨by rw [hmin]; rfl, below_al3d _ _ _ _⟩
      | exact ⟨by simp [hmin], below_al3d _ _ _ _⟩
end Go.Proofs.YtbeijnflfmjgfaaGreatDoor

namespace Go.Proofs.YtbeijnflfmjgfaaGreatDoor
open Go.RowKit

def PBin : Prop := ∀ (s : ByteArray) (a b : Vl) (w : World), s.size ≤ 1000 → a.text.size ≤ 1000 → b.text.size ≤ 1000 → Env3 w →
  Calls Tryz.prog 11 #[.string s, .agg a.cells, .agg b.cells] w fun e w' => e = .returned (.tuple #[.agg (binS s.toList (vSound a) (vSound b)).cells, .bool (binB s.toList)]) ∧ Below w.heap.size w w'
def PCall : Prop := ∀ (s : ByteArray) (va : Value) (vs : List Vl) (w : World), s.size ≤ 1000 → vs.length ≤ 1000 → (∀ x ∈ vs, x.text.size ≤ 1000) → ValsAt w va vs → Env3 w →
  Calls Tryz.prog 21 #[.string s, va] w fun e w' => e = .returned (.tuple #[.agg (callV s.toList vs).cells, .bool (callB s.toList)]) ∧ Below w.heap.size w w'
def PHas : Prop := ∀ (s : ByteArray) (w : World), s.size ≤ 1000 → Env3 w → Calls Tryz.prog 23 #[.string s] w fun e w' => e = .returned (.bool (callB s.toList)) ∧ Below w.heap.size w w'
def PNeg : Prop := ∀ (a : Vl) (w : World), a.text.size ≤ 1000 → Env3 w → Calls Tryz.prog 15 #[.agg a.cells] w fun e w' => e = .returned (.agg (negV (asNumV (vSound a))).cells) ∧ Below w.heap.size w w'
def PPct : Prop := ∀ (a : Vl) (w : World), a.text.size ≤ 1000 → Env3 w → Calls Tryz.prog 17 #[.agg a.cells] w fun e w' => e = .returned (.agg (pctV (asNumV (vSound a))).cells) ∧ Below w.heap.size w w'
structure PNums : Prop where
  bin : PBin
  call : PCall
  has : PHas
  neg : PNeg
  pct : PPct
theorem vals_two (w : World) (t : TypeId) (a b : Vl) :
    ValsAt (w.alloc (.cells #[.int .i64 a.kind, .int .i64 a.num, .string a.text, .bool a.tr, .int .i64 a.fail, .int .i64 b.kind, .int .i64 b.num, .string b.text, .bool b.tr, .int .i64 b.fail] t)) (.slice (some ⟨w.heap.size, 0, none⟩) 2 2) [a, b] := by
  refine ⟨_, 2, rfl, fun _ => ⟨w.heap.size, 0, rfl, by simp, fun i x hx => ?_⟩⟩
  match i, hx with
  | 0, hx => simp at hx; subst hx; simp
  | 1, hx => simp at hx; subst hx; simp
theorem wk_pow : binS [94] (vSound ⟨1, 20000, noText, false, 0⟩) (vSound ⟨1, -20000, noText, false, 0⟩) = ⟨1, 2500, noText, false, 0⟩ := by kernel_rfl
theorem wk_mod : callV [77, 79, 68] [⟨1, -70000, noText, false, 0⟩, ⟨1, 30000, noText, false, 0⟩] = ⟨1, 20000, noText, false, 0⟩ := by kernel_rfl
theorem wk_up : callV [82, 79, 85, 78, 68, 85, 80] [⟨1, 10100, noText, false, 0⟩, ⟨1, 10000, noText, false, 0⟩] = ⟨1, 11000, noText, false, 0⟩ := by kernel_rfl
theorem wk_neg : negV (asNumV (vSound ⟨1, 1, noText, false, 0⟩)) = ⟨1, -1, noText, false, 0⟩ := by kernel_rfl

set_option maxRecDepth 100000 in
set_option maxHeartbeats 8000000 in
theorem wakes9 (hp : PNums) (w : World) (he : Env3 w) : Calls Tryz.prog 14 #[] w fun e w' => e = .returned (.bool true) ∧ Below w.heap.size w w' := by
  have HE := hide he
  clear he
  have HP := hide hp
  clear hp
  have HB := hide (Below.refl w.heap.size w)
  have HN20000 := hide (fun w => n_val 20000 w)
  rw [show vN 20000 = ⟨1, 20000, noText, false, 0⟩ from by kernel_rfl] at HN20000
  have HNm20000 := hide (fun w => n_val (-20000) w)
  rw [show vN (-20000) = ⟨1, -20000, noText, false, 0⟩ from by kernel_rfl] at HNm20000
  have HNm70000 := hide (fun w => n_val (-70000) w)
  rw [show vN (-70000) = ⟨1, -70000, noText, false, 0⟩ from by kernel_rfl] at HNm70000
  have HN30000 := hide (fun w => n_val 30000 w)
  rw [show vN 30000 = ⟨1, 30000, noText, false, 0⟩ from by kernel_rfl] at HN30000
  have HN10100 := hide (fun w => n_val 10100 w)
  rw [show vN 10100 = ⟨1, 10100, noText, false, 0⟩ from by kernel_rfl] at HN10100
  have HN10000 := hide (fun w => n_val 10000 w)
  rw [show vN 10000 = ⟨1, 10000, noText, false, 0⟩ from by kernel_rfl] at HN10000
  have HN2500 := hide (fun w => n_val 2500 w)
  rw [show vN 2500 = ⟨1, 2500, noText, false, 0⟩ from by kernel_rfl] at HN2500
  have HN11000 := hide (fun w => n_val 11000 w)
  rw [show vN 11000 = ⟨1, 11000, noText, false, 0⟩ from by kernel_rfl] at HN11000
  have HN1 := hide (fun w => n_val 1 w)
  rw [show vN 1 = ⟨1, 1, noText, false, 0⟩ from by kernel_rfl] at HN1
  have HNm1 := hide (fun w => n_val (-1) w)
  rw [show vN (-1) = ⟨1, -1, noText, false, 0⟩ from by kernel_rfl] at HNm1
  have HC1 := hide (fun w (he : Env3 w) => (unhide HP).bin ⟨#[94]⟩ ⟨1, 20000, noText, false, 0⟩ ⟨1, -20000, noText, false, 0⟩ w (by decide) (by decide) (by decide) he)
  rw [ByteArray.toList_eq, wk_pow] at HC1
  have HC2 := hide (fun va w (h : ValsAt w va [⟨1, -70000, noText, false, 0⟩, ⟨1, 30000, noText, false, 0⟩]) (he : Env3 w) => (unhide HP).call ⟨#[77, 79, 68]⟩ va [⟨1, -70000, noText, false, 0⟩, ⟨1, 30000, noText, false, 0⟩] w (by decide) (by decide) (by decide) h he)
  rw [ByteArray.toList_eq, wk_mod] at HC2
  have HC3 := hide (fun va w (h : ValsAt w va [⟨1, 10100, noText, false, 0⟩, ⟨1, 10000, noText, false, 0⟩]) (he : Env3 w) => (unhide HP).call ⟨#[82, 79, 85, 78, 68, 85, 80]⟩ va [⟨1, 10100, noText, false, 0⟩, ⟨1, 10000, noText, false, 0⟩] w (by decide) (by decide) (by decide) h he)
  rw [ByteArray.toList_eq, wk_up] at HC3
  have HH := hide (fun w (he : Env3 w) => (unhide HP).has ⟨#[83, 81, 82, 84]⟩ w (by decide) he)
  rw [ByteArray.toList_eq, show callB [83, 81, 82, 84] = true from by decide] at HH
  have HG := hide (fun w (he : Env3 w) => (unhide HP).neg ⟨1, 1, noText, false, 0⟩ w (by decide) he)
  rw [wk_neg] at HG
  unfold Vl.cells noText at HN20000 HNm20000 HNm70000 HN30000 HN10100 HN10000 HN2500 HN11000 HN1 HNm1 HC1 HC2 HC3 HG
  simp only [] at HN20000 HNm20000 HNm70000 HN30000 HN10100 HN10000 HN2500 HN11000 HN1 HNm1 HC1 HC2 HC3 HG
  go_enter Tryz.func14, Tryz.ntmps14
  go_wp2_with fail
  refine (unhide HN20000 _).mono ?_
  rintro e w1 ⟨rfl, b1⟩
  replace HB := hide (below_nx (unhide HB) b1)
  clear b1
  go_wp2_with fail
  refine (unhide HNm20000 _).mono ?_
  rintro e w2 ⟨rfl, b2⟩
  replace HB := hide (below_nx (unhide HB) b2)
  clear b2
  go_wp2_with fail
  refine (unhide HC1 _ ((unhide HE).below (unhide HB))).mono ?_
  rintro e w3 ⟨rfl, b3⟩
  replace HB := hide (below_nx (unhide HB) b3)
  clear b3
  have X1 := hide (five_new w3 28 (.int .i64 1) (.int .i64 2500) (.string ⟨#[]⟩) (.bool false) (.int .i64 0))
  have bb := below_al w3 (.cells #[.int .i64 1, .int .i64 2500, .string ⟨#[]⟩, .bool false, .int .i64 0] 28)
  replace HB := hide (below_nx (unhide HB) bb)
  clear bb
  go_upto_region 2 with fail
  generalize hW : w3.alloc (.cells #[.int .i64 1, .int .i64 2500, .string ⟨#[]⟩, .bool false, .int .i64 0] 28) = W3 at X1 HB  ⊢
  clear hW
  go_wp2_with fail
  refine (unhide HNm70000 _).mono ?_
  rintro e w4 ⟨rfl, b4⟩
  replace X1 := hide (five_below (unhide X1) b4 (five_lt (unhide X1)))
  replace HB := hide (below_nx (unhide HB) b4)
  clear b4
  go_wp2_with fail
  refine (unhide HN30000 _).mono ?_
  rintro e w5 ⟨rfl, b5⟩
  replace X1 := hide (five_below (unhide X1) b5 (five_lt (unhide X1)))
  replace HB := hide (below_nx (unhide HB) b5)
  clear b5
  go_wp2_with fail
  refine (unhide HC2 _ _ (vals_two w5 _ ⟨1, -70000, noText, false, 0⟩ ⟨1, 30000, noText, false, 0⟩) ((unhide HE).below (below_nx (unhide HB) (below_al w5 _)))).mono ?_
  rintro e w6 ⟨rfl, b6⟩
  replace b6 := below_nx (below_al w5 _) b6
  replace X1 := hide (five_below (unhide X1) b6 (five_lt (unhide X1)))
  replace HB := hide (below_nx (unhide HB) b6)
  clear b6
  have X2 := hide (five_new w6 28 (.int .i64 1) (.int .i64 20000) (.string ⟨#[]⟩) (.bool false) (.int .i64 0))
  have bb := below_al w6 (.cells #[.int .i64 1, .int .i64 20000, .string ⟨#[]⟩, .bool false, .int .i64 0] 28)
  replace X1 := hide (five_below (unhide X1) bb (five_lt (unhide X1)))
  replace HB := hide (below_nx (unhide HB) bb)
  clear bb
  go_upto_region 3 with fail
  generalize hW : w6.alloc (.cells #[.int .i64 1, .int .i64 20000, .string ⟨#[]⟩, .bool false, .int .i64 0] 28) = W6 at X2 HB X1 ⊢
  clear hW
  go_wp2_with fail
  refine (unhide HN10100 _).mono ?_
  rintro e w7 ⟨rfl, b7⟩
  replace X1 := hide (five_below (unhide X1) b7 (five_lt (unhide X1)))
  replace X2 := hide (five_below (unhide X2) b7 (five_lt (unhide X2)))
  replace HB := hide (below_nx (unhide HB) b7)
  clear b7
  go_wp2_with fail
  refine (unhide HN10000 _).mono ?_
  rintro e w8 ⟨rfl, b8⟩
  replace X1 := hide (five_below (unhide X1) b8 (five_lt (unhide X1)))
  replace X2 := hide (five_below (unhide X2) b8 (five_lt (unhide X2)))
  replace HB := hide (below_nx (unhide HB) b8)
  clear b8
  go_wp2_with fail
  refine (unhide HC3 _ _ (vals_two w8 _ ⟨1, 10100, noText, false, 0⟩ ⟨1, 10000, noText, false, 0⟩) ((unhide HE).below (below_nx (unhide HB) (below_al w8 _)))).mono ?_
  rintro e w9 ⟨rfl, b9⟩
  replace b9 := below_nx (below_al w8 _) b9
  replace X1 := hide (five_below (unhide X1) b9 (five_lt (unhide X1)))
  replace X2 := hide (five_below (unhide X2) b9 (five_lt (unhide X2)))
  replace HB := hide (below_nx (unhide HB) b9)
  clear b9
  have X3 := hide (five_new w9 28 (.int .i64 1) (.int .i64 11000) (.string ⟨#[]⟩) (.bool false) (.int .i64 0))
  have bb := below_al w9 (.cells #[.int .i64 1, .int .i64 11000, .string ⟨#[]⟩, .bool false, .int .i64 0] 28)
  replace X1 := hide (five_below (unhide X1) bb (five_lt (unhide X1)))
  replace X2 := hide (five_below (unhide X2) bb (five_lt (unhide X2)))
  replace HB := hide (below_nx (unhide HB) bb)
  clear bb
  go_upto_region 4 with fail
  generalize hW : w9.alloc (.cells #[.int .i64 1, .int .i64 11000, .string ⟨#[]⟩, .bool false, .int .i64 0] 28) = W9 at X3 HB X1 X2 ⊢
  clear hW
  have hq0 := fun w => vl_eq 1 2500 ⟨#[]⟩ false 0 1 2500 ⟨#[]⟩ false 0 w
  simp only [show vEq ⟨1, 2500, ⟨#[]⟩, false, 0⟩ ⟨1, 2500, ⟨#[]⟩, false, 0⟩ = true from by kernel_rfl] at hq0
  have hq1 := fun w => vl_eq 1 20000 ⟨#[]⟩ false 0 1 20000 ⟨#[]⟩ false 0 w
  simp only [show vEq ⟨1, 20000, ⟨#[]⟩, false, 0⟩ ⟨1, 20000, ⟨#[]⟩, false, 0⟩ = true from by kernel_rfl] at hq1
  have hq2 := fun w => vl_eq 1 11000 ⟨#[]⟩ false 0 1 11000 ⟨#[]⟩ false 0 w
  simp only [show vEq ⟨1, 11000, ⟨#[]⟩, false, 0⟩ ⟨1, 11000, ⟨#[]⟩, false, 0⟩ = true from by kernel_rfl] at hq2
  have hq3 := fun w => vl_eq 1 (-1) ⟨#[]⟩ false 0 1 (-1) ⟨#[]⟩ false 0 w
  simp only [show vEq ⟨1, (-1), ⟨#[]⟩, false, 0⟩ ⟨1, (-1), ⟨#[]⟩, false, 0⟩ = true from by kernel_rfl] at hq3
  replace X1 := hide (five_drew (unhide X1))
  replace X2 := hide (five_drew (unhide X2))
  replace X3 := hide (five_drew (unhide X3))
  replace HB := hide (unhide HB).drew
  obtain ⟨x1_0, x1_1, x1_2, x1_3, x1_4⟩ := five_cells (unhide X1)
  obtain ⟨x2_0, x2_1, x2_2, x2_3, x2_4⟩ := five_cells (unhide X2)
  obtain ⟨x3_0, x3_1, x3_2, x3_3, x3_4⟩ := five_cells (unhide X3)
  go_region_held3 (fun w' => w'.cell? ⟨w3.heap.size, 0, none⟩ = some (.int .i64 1) ∧ w'.cell? ⟨w3.heap.size, 1, none⟩ = some (.int .i64 2500) ∧ w'.cell? ⟨w3.heap.size, 2, none⟩ = some (.string ⟨#[]⟩) ∧ w'.cell? ⟨w3.heap.size, 3, none⟩ = some (.bool false) ∧ w'.cell? ⟨w3.heap.size, 4, none⟩ = some (.int .i64 0) ∧ w'.cell? ⟨w6.heap.size, 0, none⟩ = some (.int .i64 1) ∧ w'.cell? ⟨w6.heap.size, 1, none⟩ = some (.int .i64 20000) ∧ w'.cell? ⟨w6.heap.size, 2, none⟩ = some (.string ⟨#[]⟩) ∧ w'.cell? ⟨w6.heap.size, 3, none⟩ = some (.bool false) ∧ w'.cell? ⟨w6.heap.size, 4, none⟩ = some (.int .i64 0) ∧ w'.cell? ⟨w9.heap.size, 0, none⟩ = some (.int .i64 1) ∧ w'.cell? ⟨w9.heap.size, 1, none⟩ = some (.int .i64 11000) ∧ w'.cell? ⟨w9.heap.size, 2, none⟩ = some (.string ⟨#[]⟩) ∧ w'.cell? ⟨w9.heap.size, 3, none⟩ = some (.bool false) ∧ w'.cell? ⟨w9.heap.size, 4, none⟩ = some (.int .i64 0)) (first | exact ⟨x1_0, x1_1, x1_2, x1_3, x1_4, x2_0, x2_1, x2_2, x2_3, x2_4, x3_0, x3_1, x3_2, x3_3, x3_4⟩ | go_keep)
    (first
      | (go_at_call_of 25 (Value.int IntKind.i64 2500); refine (unhide HN2500 _).mono ?_; rintro e yy ⟨rfl, zz⟩; replace X1 := hide (five_below (unhide X1) zz (five_lt (unhide X1))); replace X2 := hide (five_below (unhide X2) zz (five_lt (unhide X2))); replace X3 := hide (five_below (unhide X3) zz (five_lt (unhide X3))); replace HB := hide (below_nx (unhide HB) zz); clear zz x1_0 x1_1 x1_2 x1_3 x1_4 x2_0 x2_1 x2_2 x2_3 x2_4 x3_0 x3_1 x3_2 x3_3 x3_4; obtain ⟨x1_0, x1_1, x1_2, x1_3, x1_4⟩ := five_cells (unhide X1); obtain ⟨x2_0, x2_1, x2_2, x2_3, x2_4⟩ := five_cells (unhide X2); obtain ⟨x3_0, x3_1, x3_2, x3_3, x3_4⟩ := five_cells (unhide X3))
      | (go_at_call_of 25 (Value.int IntKind.i64 20000); refine (unhide HN20000 _).mono ?_; rintro e yy ⟨rfl, zz⟩; replace X1 := hide (five_below (unhide X1) zz (five_lt (unhide X1))); replace X2 := hide (five_below (unhide X2) zz (five_lt (unhide X2))); replace X3 := hide (five_below (unhide X3) zz (five_lt (unhide X3))); replace HB := hide (below_nx (unhide HB) zz); clear zz x1_0 x1_1 x1_2 x1_3 x1_4 x2_0 x2_1 x2_2 x2_3 x2_4 x3_0 x3_1 x3_2 x3_3 x3_4; obtain ⟨x1_0, x1_1, x1_2, x1_3, x1_4⟩ := five_cells (unhide X1); obtain ⟨x2_0, x2_1, x2_2, x2_3, x2_4⟩ := five_cells (unhide X2); obtain ⟨x3_0, x3_1, x3_2, x3_3, x3_4⟩ := five_cells (unhide X3))
      | (go_at_call_of 25 (Value.int IntKind.i64 11000); refine (unhide HN11000 _).mono ?_; rintro e yy ⟨rfl, zz⟩; replace X1 := hide (five_below (unhide X1) zz (five_lt (unhide X1))); replace X2 := hide (five_below (unhide X2) zz (five_lt (unhide X2))); replace X3 := hide (five_below (unhide X3) zz (five_lt (unhide X3))); replace HB := hide (below_nx (unhide HB) zz); clear zz x1_0 x1_1 x1_2 x1_3 x1_4 x2_0 x2_1 x2_2 x2_3 x2_4 x3_0 x3_1 x3_2 x3_3 x3_4; obtain ⟨x1_0, x1_1, x1_2, x1_3, x1_4⟩ := five_cells (unhide X1); obtain ⟨x2_0, x2_1, x2_2, x2_3, x2_4⟩ := five_cells (unhide X2); obtain ⟨x3_0, x3_1, x3_2, x3_3, x3_4⟩ := five_cells (unhide X3))
      | (go_at_call_of 25 (Value.int IntKind.i64 1); refine (unhide HN1 _).mono ?_; rintro e yy ⟨rfl, zz⟩; replace X1 := hide (five_below (unhide X1) zz (five_lt (unhide X1))); replace X2 := hide (five_below (unhide X2) zz (five_lt (unhide X2))); replace X3 := hide (five_below (unhide X3) zz (five_lt (unhide X3))); replace HB := hide (below_nx (unhide HB) zz); clear zz x1_0 x1_1 x1_2 x1_3 x1_4 x2_0 x2_1 x2_2 x2_3 x2_4 x3_0 x3_1 x3_2 x3_3 x3_4; obtain ⟨x1_0, x1_1, x1_2, x1_3, x1_4⟩ := five_cells (unhide X1); obtain ⟨x2_0, x2_1, x2_2, x2_3, x2_4⟩ := five_cells (unhide X2); obtain ⟨x3_0, x3_1, x3_2, x3_3, x3_4⟩ := five_cells (unhide X3))
      | (go_at_call 25; refine (unhide HNm1 _).mono ?_; rintro e yy ⟨rfl, zz⟩; replace X1 := hide (five_below (unhide X1) zz (five_lt (unhide X1))); replace X2 := hide (five_below (unhide X2) zz (five_lt (unhide X2))); replace X3 := hide (five_below (unhide X3) zz (five_lt (unhide X3))); replace HB := hide (below_nx (unhide HB) zz); clear zz x1_0 x1_1 x1_2 x1_3 x1_4 x2_0 x2_1 x2_2 x2_3 x2_4 x3_0 x3_1 x3_2 x3_3 x3_4; obtain ⟨x1_0, x1_1, x1_2, x1_3, x1_4⟩ := five_cells (unhide X1); obtain ⟨x2_0, x2_1, x2_2, x2_3, x2_4⟩ := five_cells (unhide X2); obtain ⟨x3_0, x3_1, x3_2, x3_3, x3_4⟩ := five_cells (unhide X3))
      | (go_at_call 23; refine (unhide HH _ ((unhide HE).below (unhide HB))).mono ?_; rintro e yy ⟨rfl, zz⟩; replace X1 := hide (five_below (unhide X1) zz (five_lt (unhide X1))); replace X2 := hide (five_below (unhide X2) zz (five_lt (unhide X2))); replace X3 := hide (five_below (unhide X3) zz (five_lt (unhide X3))); replace HB := hide (below_nx (unhide HB) zz); clear zz x1_0 x1_1 x1_2 x1_3 x1_4 x2_0 x2_1 x2_2 x2_3 x2_4 x3_0 x3_1 x3_2 x3_3 x3_4; obtain ⟨x1_0, x1_1, x1_2, x1_3, x1_4⟩ := five_cells (unhide X1); obtain ⟨x2_0, x2_1, x2_2, x2_3, x2_4⟩ := five_cells (unhide X2); obtain ⟨x3_0, x3_1, x3_2, x3_3, x3_4⟩ := five_cells (unhide X3))
      | (go_at_call 15; refine (unhide HG _ ((unhide HE).below (unhide HB))).mono ?_; rintro e yy ⟨rfl, zz⟩; replace X1 := hide (five_below (unhide X1) zz (five_lt (unhide X1))); replace X2 := hide (five_below (unhide X2) zz (five_lt (unhide X2))); replace X3 := hide (five_below (unhide X3) zz (five_lt (unhide X3))); replace HB := hide (below_nx (unhide HB) zz); clear zz x1_0 x1_1 x1_2 x1_3 x1_4 x2_0 x2_1 x2_2 x2_3 x2_4 x3_0 x3_1 x3_2 x3_3 x3_4; obtain ⟨x1_0, x1_1, x1_2, x1_3, x1_4⟩ := five_cells (unhide X1); obtain ⟨x2_0, x2_1, x2_2, x2_3, x2_4⟩ := five_cells (unhide X2); obtain ⟨x3_0, x3_1, x3_2, x3_3, x3_4⟩ := five_cells (unhide X3)))
  all_goals (try go_wp2_with fail)
  all_goals go_ret
  all_goals exact ⟨rfl, unhide HB⟩
end Go.Proofs.YtbeijnflfmjgfaaGreatDoor

namespace Go.Proofs.YtbeijnflfmjgfaaGreatDoor
open Go.RowKit

theorem infoPV : (Tryz.prog.info? 28).map (fun i => (i.zero, i.size, i.bytes)) = some (some (.agg #[.int .i64 0, .int .i64 0, .string ⟨#[]⟩, .bool false, .int .i64 0]), 5, 48) := by kernel_rfl
theorem infoRV : (Tryz.prog.info? 29).map (fun i => (i.zero, i.size, i.bytes)) = some (some (.agg #[.int .i64 0, .int .i64 0, .string ⟨#[]⟩, .bool false, .int .i64 0]), 5, 48) := by kernel_rfl
theorem val_parts {P : Program} {t : TypeId} {z : Value} (h : (P.info? t).map (fun i => (i.zero, i.size, i.bytes)) = some (some z, 5, 48)) : ∃ i, P.info? t = some i ∧ i.zero = some z ∧ i.size = 5 ∧ i.bytes = 48 := by
  cases hi : P.info? t with
  | none => rw [hi] at h; cases h
  | some i =>
    rw [hi] at h
    simp only [Option.map_some, Option.some.injEq, Prod.mk.injEq] at h
    exact ⟨i, rfl, h.1, h.2.1, h.2.2⟩
def cellsL (x : Vl) : List Value := [.int .i64 x.kind, .int .i64 x.num, .string x.text, .bool x.tr, .int .i64 x.fail]
def flatV (xs : List Vl) : List Value := xs.flatMap cellsL
theorem flatV_snoc (xs : List Vl) (x : Vl) : flatV (xs ++ [x]) = flatV xs ++ cellsL x := by unfold flatV; simp
theorem flatV_get (xs : List Vl) (i : Nat) (x : Vl) (h : xs[i]? = some x) (j : Nat) (hj : j < 5) : (flatV xs)[i * 5 + j]? = (cellsL x)[j]? := by
  induction xs generalizing i with
  | nil => simp at h
  | cons t ts ih =>
    have hl : (cellsL t).length = 5 := rfl
    unfold flatV at ih ⊢
    rw [List.flatMap_cons]
    cases i with
    | zero =>
      simp at h
      subst h
      rw [Nat.zero_mul, Nat.zero_add, List.getElem?_append_left (by omega)]
    | succ n =>
      rw [List.getElem?_append_right (by omega), hl, show (n + 1) * 5 + j - 5 = n * 5 + j by omega]
      exact ih n (by simpa using h)
def VRow (T : TypeId) (w : World) (B : Nat) (v : Value) (xs : List Vl) : Prop := w.ownsRow B T 5 v xs.length (flatV xs)
theorem vrow_vals {T : TypeId} {w : World} {B : Nat} {v : Value} {xs : List Vl} (h : VRow T w B v xs) : ValsAt w v xs := by
  have h0 := h
  unfold VRow World.ownsRow at h0
  rcases h0.2 with ⟨rfl, hl⟩ | ⟨g, cap, cur, rfl, _, hg, _⟩
  · exact ⟨none, 0, by rw [hl], fun h => by omega⟩
  · refine ⟨_, cap, rfl, fun _ => ⟨g, 0, rfl, ?_, fun i x hx => ?_⟩⟩
    · rcases Nat.lt_or_ge g w.heap.size with h | h
      · exact h
      · rw [Array.getElem?_eq_none h] at hg; cases hg
    · have hi : i < xs.length := (List.getElem?_eq_some_iff.1 hx).1
      have hc : ∀ j, j < 5 → w.cell? ⟨g, i * 5 + j, none⟩ = (cellsL x)[j]? := fun j hj => by
        rw [World.ownsRow.cellAt h (i * 5 + j) (by omega)]
        exact flatV_get xs i x hx j hj
      rw [Nat.zero_add]
      exact ⟨hc 0 (by omega), hc 1 (by omega), hc 2 (by omega), hc 3 (by omega), hc 4 (by omega)⟩
def Apart (a b : Value) : Prop := a.ownBlock = none ∨ a.ownBlock ≠ b.ownBlock
theorem apart_turn {a b : Value} (h : Apart a b) : Apart b a := by
  unfold Apart at h ⊢
  by_cases hb : b.ownBlock = none
  · exact Or.inl hb
  · refine Or.inr fun e => ?_
    rcases h with h | h
    · exact hb (e.trans h)
    · exact h e.symm
structure Pair9 (w : World) (B : Nat) (a b : Value) (xs : List Vl) : Prop where
  left : VRow 28 w B a xs
  right : VRow 29 w B b xs
  apart : Apart a b
theorem vrow_below {T : TypeId} {B : Nat} {w w' : World} {v : Value} {ts : List Vl} (h : VRow T w B v ts) (hb : Below w.heap.size w w') : VRow T w' B v ts := by
  unfold VRow World.ownsRow at h ⊢
  refine ⟨h.1, ?_⟩
  rcases h.2 with h | ⟨g, cap, cur, h1, h2, h3, h4⟩
  · exact Or.inl h
  · refine Or.inr ⟨g, cap, cur, h1, h2, ?_, h4⟩
    have hlt : g < w.heap.size := by
      rcases Nat.lt_or_ge g w.heap.size with h | h
      · exact h
      · rw [Array.getElem?_eq_none h] at h3; cases h3
    rw [hb.block g hlt]; exact h3
theorem pair9_nil (w : World) (B : Nat) : Pair9 w B (.slice none 0 0) (.slice none 0 0) [] :=
  ⟨⟨rfl, Or.inl ⟨rfl, rfl⟩⟩, ⟨rfl, Or.inl ⟨rfl, rfl⟩⟩, Or.inl rfl⟩
theorem other_stays {W wf : World} {B g n m c : Nat} {T : TypeId} {vF vS : Value} {ys : List Value} (hF : W.ownsRow B T 5 vF n ys) (ha : Apart vF vS)
    (hg : W.grownBy wf vS.ownBlock) (hat : vS.ownBlock = some g ∨ g = W.heap.size) :
    wf.ownsRow B T 5 vF n ys ∧ Apart vF (.slice (some ⟨g, 0, none⟩) (m + 1) c) := by
  refine ⟨World.ownsRow.kept hF hg ha, ?_⟩
  by_cases h0 : vF.ownBlock = none
  · exact Or.inl h0
  · refine Or.inr fun e => ?_
    have e2 : vF.ownBlock = some g := e
    rcases hat with h | h
    · rcases ha with h1 | h1
      · exact h0 h1
      · exact h1 (e2.trans h.symm)
    · have := (World.ownsRow.lt hF g e2).2
      omega
theorem grown_below {B : Nat} {w W wf : World} {v : Value} {T : TypeId} {n : Nat} {ys : List Value} (hb : Below B w W) (hB : B ≤ W.heap.size) (hv : W.ownsRow B T 5 v n ys) (hg : W.grownBy wf v.ownBlock) : Below B w wf :=
  hb.grown hg hB (fun j hj => (World.ownsRow.lt hv j hj).1)
theorem lvals_open {w : World} {v : Value} {xs : List Vl} (h : LValsAt w v xs) :
    (xs = [] ∧ ∃ ad cap, v = .slice ad 0 cap ∧ cap ≤ maxLen) ∨ ∃ b o cap, 0 < xs.length ∧ v = .slice (some ⟨b, o, none⟩) xs.length cap ∧ xs.length ≤ cap ∧ cap ≤ maxLen ∧ b < w.heap.size ∧
      ∀ i x, xs[i]? = some x → w.cell? ⟨b, o + i * 5, none⟩ = some (.int .i64 x.kind) ∧ w.cell? ⟨b, o + i * 5 + 1, none⟩ = some (.int .i64 x.num) ∧ w.cell? ⟨b, o + i * 5 + 2, none⟩ = some (.string x.text) ∧
        w.cell? ⟨b, o + i * 5 + 3, none⟩ = some (.bool x.tr) ∧ w.cell? ⟨b, o + i * 5 + 4, none⟩ = some (.int .i64 x.fail) := by
  rcases h with ⟨rfl, rfl⟩ | ⟨a, cap, rfl, h1, h2, hc⟩
  · exact Or.inl ⟨rfl, none, 0, rfl, Nat.zero_le _⟩
  · cases xs with
    | nil => exact Or.inl ⟨rfl, some a, cap, rfl, h2⟩
    | cons y ys =>
      right
      have h0 := hc 0 y rfl
      have hs : a.spot = none := by
        have hk := h0.2.1
        rw [Nat.zero_mul] at hk
        unfold Addr.add at hk
        rw [if_pos rfl] at hk
        unfold World.cell? at hk
        split at hk
        · cases hs : a.spot with
          | none => rfl
          | some s => rw [hs] at hk; simp at hk
        · cases hk
      obtain ⟨b, o, sp⟩ := a
      simp only at hs
      subst hs
      refine ⟨b, o, cap, by simp, rfl, h1, h2, h0.1, fun i x hx => ?_⟩
      have hi := (hc i x hx).2
      simp only [Addr.add_lit, ← Nat.add_assoc] at hi
      exact hi
end Go.Proofs.YtbeijnflfmjgfaaGreatDoor
