/- The contracts of slices.Index and slices.Contains at rows of references. -/
import Derived.BigQuiet
import Derived.BigRegion
import Derived.Deep.AppendLies
import Derived.Deep.CutBlock
import Derived.Deep.CutRange
import Derived.Deep.DeepFit
import Derived.Deep.MidRow
import Derived.Deep.QuietTactic
import Derived.Deep.RegionHeld3
import Derived.Deep.RegionLaw
import Derived.Deep.RegionWith
import Derived.Deep.WholeRow
import Derived.Great.BuildSlice
import Derived.Laws.Bits64b
import Derived.Laws.CopyOwn
import Derived.Laws.IdiomStrings
import Derived.Laws.OwnMore
import Derived.Laws.Rows
import Derived.Laws.StructEq
import Derived.Laws.Tables
import Derived.Lib.Atoi
import Derived.Lib.AtoiErrMem
import Derived.Lib.BitFns
import Derived.Lib.CutLaws
import Derived.Lib.IndexMore
import Derived.Lib.ItoaMem
import Derived.Lib.ItoaNum
import Derived.Lib.Join
import Derived.Lib.Replace
import Derived.Lib.Walk
import Derived.Shelf.Bits.Mul64
import Derived.Shelf.LaysM
import Derived.Shelf.Small.Bits
import Derived.Shelf.Small.Strs
import Derived.Shelf.Small.Utf8
import Derived.Shelf.Small.Wraps
import Derived.Shelf.Strconv.Atoi
import Derived.Shelf.Strconv.Itoa0
import Derived.Shelf.Strconv.Itoa1
import Derived.Shelf.Strconv.Itoa2
import Derived.Shelf.Strconv.Itoa3
import Derived.Shelf.Strings.AsciiSet
import Derived.Shelf.Strings.Builder1
import Derived.Shelf.Strings.Builder2
import Derived.Shelf.Strings.Count
import Derived.Shelf.Strings.Cut
import Derived.Shelf.Strings.OnBuilder
import Derived.Shelf.Strings.Prefix
import Derived.Shelf.Strings.Replace
import Derived.Shelf.Strings.Runes
import Derived.Shelf.Strings.Search1
import Derived.Shelf.Strings.Search2
import Derived.Shelf.Strings.Search3
import Derived.Shelf.Strings.Shaped
import Derived.Shelf.Strings.Split
import Derived.Shelf.Strings.SplitShaped
import Derived.Shelf.Strings.Trim
import Derived.Shelf.Unicode.DecodeSlow
import Derived.Test.YtloamahbghjjgaaGreatDoorProg
import Derived.Test.YtloamahbghjjgaaGreatDoorRows
import Derived.WalkKit
import Derived.WalkLawsBesides
import Derived.WalkSmall
import Derived.WalkSpells
import Derived.Test.YtloamahbghjjgaaGreatDoorZgAA
import Derived.Test.YtloamahbghjjgaaGreatDoorZgAB
import Derived.Test.YtloamahbghjjgaaGreatDoorZgAC
import Derived.Test.YtloamahbghjjgaaGreatDoorZgAD
import Derived.Test.YtloamahbghjjgaaGreatDoorZgAE
import Derived.Test.YtloamahbghjjgaaGreatDoorZgAF
import Derived.Test.YtloamahbghjjgaaGreatDoorZgAG
import Derived.Test.YtloamahbghjjgaaGreatDoorZgAH
import Derived.Test.YtloamahbghjjgaaGreatDoorZgAI
import Derived.Test.YtloamahbghjjgaaGreatDoorZgAJ
import Derived.Test.YtloamahbghjjgaaGreatDoorZgAK
import Derived.Test.YtloamahbghjjgaaGreatDoorZgAL
import Derived.Test.YtloamahbghjjgaaGreatDoorZgAM
import Derived.Test.YtloamahbghjjgaaGreatDoorZgAN
import Derived.Test.YtloamahbghjjgaaGreatDoorZgAO
import Derived.Test.YtloamahbghjjgaaGreatDoorZgAP
import Derived.Test.YtloamahbghjjgaaGreatDoorZgAQ
namespace Go.Proofs.YtloamahbghjjgaaGreatDoor
open Go.RowKit

abbrev fuT : TypeId := 52
def FullsIn (w : World) (a : Option Addr) (fs : List Fl) : Prop :=
  fs = [] ∨ ∃ g off, a = some ⟨g, off, none⟩ ∧ g < w.heap.size ∧ ∀ (i : Nat) (f : Fl), fs[i]? = some f → ∀ (j : Nat) (u : Value), f.cells[j]? = some u → w.cell? ⟨g, off + i * 11 + j, none⟩ = some u
theorem fulls_below {w w' : World} {a : Option Addr} {fs : List Fl} (h : FullsIn w a fs) (hb : Below w.heap.size w w') : FullsIn w' a fs := by
  rcases h with h | ⟨g, off, rfl, hg, hc⟩
  · exact Or.inl h
  · exact Or.inr ⟨g, off, rfl, Nat.lt_of_lt_of_le hg hb.size, fun i k hi j u hu => by rw [hb.cell (p := ⟨g, off + i * 11 + j, none⟩) hg]; exact hc i k hi j u hu⟩
theorem fulls_at {w : World} {a : Option Addr} {fs : List Fl} (h : FullsIn w a fs) (i : Nat) (f : Fl) (hi : fs[i]? = some f) : ∃ g off, a = some ⟨g, off, none⟩ ∧ g < w.heap.size ∧
    (w.cell? ⟨g, off + i * 11, none⟩ = some (.string f.book) ∧ w.cell? ⟨g, off + i * 11 + 1, none⟩ = some (.string f.sheet) ∧ w.cell? ⟨g, off + i * 11 + 2, none⟩ = some (.int .i64 f.a.col) ∧ w.cell? ⟨g, off + i * 11 + 3, none⟩ = some (.int .i64 f.a.row) ∧ w.cell? ⟨g, off + i * 11 + 4, none⟩ = some (.bool f.a.fc) ∧ w.cell? ⟨g, off + i * 11 + 5, none⟩ = some (.bool f.a.fr) ∧ w.cell? ⟨g, off + i * 11 + 6, none⟩ = some (.int .i64 f.b.col) ∧ w.cell? ⟨g, off + i * 11 + 7, none⟩ = some (.int .i64 f.b.row) ∧ w.cell? ⟨g, off + i * 11 + 8, none⟩ = some (.bool f.b.fc) ∧ w.cell? ⟨g, off + i * 11 + 9, none⟩ = some (.bool f.b.fr) ∧ w.cell? ⟨g, off + i * 11 + 10, none⟩ = some (.bool f.wide)) := by
  rcases h with h | ⟨g, off, rfl, hg, hc⟩
  · rw [h] at hi; simp at hi
  · have h := fun j u => hc i f hi j u
    exact ⟨g, off, rfl, hg, h 0 _ rfl, h 1 _ rfl, h 2 _ rfl, h 3 _ rfl, h 4 _ rfl, h 5 _ rfl, h 6 _ rfl, h 7 _ rfl, h 8 _ rfl, h 9 _ rfl, h 10 _ rfl⟩
def hasF (fs : List Fl) (x : Fl) : Bool := fs.any fun f => fEq x f
theorem cells11x {w : World} {B : Nat} {t : TypeId} {v0 v1 v2 v3 v4 v5 v6 v7 v8 v9 v10 : Value} (h : CellsAt w B t #[v0, v1, v2, v3, v4, v5, v6, v7, v8, v9, v10]) :
    w.cell? ⟨B, 0, none⟩ = some v0 ∧ w.cell? ⟨B, 1, none⟩ = some v1 ∧ w.cell? ⟨B, 2, none⟩ = some v2 ∧ w.cell? ⟨B, 3, none⟩ = some v3 ∧ w.cell? ⟨B, 4, none⟩ = some v4 ∧ w.cell? ⟨B, 5, none⟩ = some v5 ∧ w.cell? ⟨B, 6, none⟩ = some v6 ∧ w.cell? ⟨B, 7, none⟩ = some v7 ∧ w.cell? ⟨B, 8, none⟩ = some v8 ∧ w.cell? ⟨B, 9, none⟩ = some v9 ∧ w.cell? ⟨B, 10, none⟩ = some v10 :=
  ⟨cells_c h 0 _ rfl, cells_c h 1 _ rfl, cells_c h 2 _ rfl, cells_c h 3 _ rfl, cells_c h 4 _ rfl, cells_c h 5 _ rfl, cells_c h 6 _ rfl, cells_c h 7 _ rfl, cells_c h 8 _ rfl, cells_c h 9 _ rfl, cells_c h 10 _ rfl⟩
theorem below_same3 {w w1 w2 : World} (h : Below w.heap.size w w1) (h2 : w2.heap = w1.heap) (h3 : w2.os = w1.os) (h4 : w2.tape = w1.tape) (h5 : w2.output = w1.output) : Below w.heap.size w w2 :=
  below_nx h ⟨h3, h4, h5, by rw [h2]; exact Nat.le_refl _, fun k _ => by rw [h2]⟩
set_option maxRecDepth 100000 in
set_option maxHeartbeats 4000000 in
theorem findex_val (a : Option Addr) (cap : Nat) (fs : List Fl) (x : Fl) (w : World) (ha : FullsIn w a fs) (hx : fs.length ≤ 100000) :
    Calls Tryz.prog 159 #[.slice a fs.length cap, .agg x.cells] w fun e w' => (∃ v : Int, e = .returned (.int .i64 v) ∧ decide (0 ≤ v) = hasF fs x) ∧ Below w.heap.size w w' := by
  have HA := hide ha
  clear ha
  obtain ⟨n, hn⟩ : ∃ n, fs.length = n := ⟨_, rfl⟩
  have HN := hide hn
  rw [hn] at hx ⊢
  clear hn
  obtain ⟨bq, hbq⟩ : ∃ bq, hasF fs x = bq := ⟨_, rfl⟩
  have HQ := hide hbq
  rw [hbq]
  clear hbq
  have HEQ := hide (fun f w => full_eq x f w)
  have HXX := hide (rfl : fs.any (fun f => fEq x f) = hasF fs x)
  obtain ⟨X, hX⟩ : ∃ X, x = X := ⟨_, rfl⟩
  have HX := hide hX
  clear hX
  obtain ⟨bk, sh, ⟨c1, r1, f1, g1⟩, ⟨c2, r2, f2, g2⟩, wd⟩ := x
  unfold Fl.cells at HEQ ⊢
  simp only [] at HEQ ⊢
  have HBA := hide (below_al w (.cells #[.string bk, .string sh, .int .i64 c1, .int .i64 r1, .bool f1, .bool g1, .int .i64 c2, .int .i64 r2, .bool f2, .bool g2, .bool wd] fuT))
  have HCN := hide (cells_new w fuT #[.string bk, .string sh, .int .i64 c1, .int .i64 r1, .bool f1, .bool g1, .int .i64 c2, .int .i64 r2, .bool f2, .bool g2, .bool wd])
  go_enter Tryz.func159, Tryz.ntmps159
  go_wp2_with fail
  go_loopw [8] (fun v wr => ∃ k : Nat, v = .int .i64 (k : Int) ∧ k ≤ n ∧ Hid (hasF (fs.take k) X = false) ∧ Hid (CellsAt wr w.heap.size fuT #[.string bk, .string sh, .int .i64 c1, .int .i64 r1, .bool f1, .bool g1, .int .i64 c2, .int .i64 r2, .bool f2, .bool g2, .bool wd]) ∧ Hid (Below w.heap.size w wr)) (fun v _ => n - (intOf v).toNat)
  case atStart => exact ⟨0, rfl, by omega, hide rfl, HCN, HBA⟩
  case round =>
    obtain ⟨k, rfl, hk, HT, HC, HBW⟩ := hrel
    by_cases hlt : k < n
    · have hlti : (k : Int) < (n : Int) := by omega
      obtain ⟨s, hs⟩ : ∃ s, fs[k]? = some s := ⟨_, List.getElem?_eq_getElem (by rw [unhide HN]; exact hlt)⟩
      have HS := hide hs
      obtain ⟨gg, o1, rfl, _, y0, y1, y2, y3, y4, y5, y6, y7, y8, y9, y10⟩ := fulls_at (fulls_below (unhide HA) (unhide HBW)) k s hs
      obtain ⟨x0, x1, x2, x3, x4, x5, x6, x7, x8, x9, x10⟩ := cells11x (unhide HC)
      clear hs
      obtain ⟨b, hb⟩ : ∃ b, fEq X s = b := ⟨_, rfl⟩
      have HQ2 : ∀ w, (binOp .eql fuT (.agg #[.string bk, .string sh, .int .i64 c1, .int .i64 r1, .bool f1, .bool g1, .int .i64 c2, .int .i64 r2, .bool f2, .bool g2, .bool wd]) (.agg #[.string s.book, .string s.sheet, .int .i64 s.a.col, .int .i64 s.a.row, .bool s.a.fc, .bool s.a.fr, .int .i64 s.b.col, .int .i64 s.b.row, .bool s.b.fc, .bool s.b.fr, .bool s.wide])).run Tryz.prog w = .ok (.bool b) w := fun w => by
        rw [← hb, ← unhide HX]
        exact unhide HEQ s w
      have HBB := hide hb
      clear hb
      cases b with
      | true =>
        have HD : Hid (bq = true) := hide (by
          rw [← unhide HQ, unhide HX]
          unfold hasF
          rw [List.any_eq_true]
          exact ⟨s, List.mem_of_getElem? (unhide HS), unhide HBB⟩)
        go_upto_region 4 with fail
        go_quiet (fail)
        go_wp2
        go_ret
        exact ⟨⟨_, rfl, by rw [unhide HD]; exact decide_eq_true (by omega)⟩, below_same3 (unhide HBW) rfl rfl rfl rfl⟩
      | false =>
        have HT2 : Hid (hasF (fs.take (k + 1)) X = false) := hide (by
          have h1 := unhide HT
          unfold hasF at h1 ⊢
          rw [List.take_add_one, unhide HS, List.any_append, h1]
          simp [unhide HBB])
        go_upto_region 4 with fail
        go_quiet (fail)
        go_wp2
        go_roundw
        case rel => exact ⟨k + 1, by go_num, by omega, HT2, hide (unhide HC), hide (below_same3 (unhide HBW) rfl rfl rfl rfl)⟩
        case measure => simp [intOf]; omega
    · have hlti : ¬ (k : Int) < (n : Int) := by omega
      have HD : Hid (bq = false) := hide (by
        rw [← unhide HQ, unhide HX]
        have h1 := unhide HT
        rw [List.take_of_length_le (by rw [unhide HN]; omega)] at h1
        exact h1)
      go_wp2
      go_ret
      exact ⟨⟨_, rfl, by rw [unhide HD]; exact decide_eq_false (by omega)⟩, unhide HBW⟩
set_option maxRecDepth 100000 in
set_option maxHeartbeats 2000000 in
theorem fcontains_val (a : Option Addr) (cap : Nat) (fs : List Fl) (x : Fl) (w : World) (ha : FullsIn w a fs) (hx : fs.length ≤ 100000) :
    Calls Tryz.prog 109 #[.slice a fs.length cap, .agg x.cells] w fun e w' => e = .returned (.bool (hasF fs x)) ∧ Below w.heap.size w w' := by
  have HS := hide (fun w2 (h : FullsIn w2 a fs) => findex_val a cap fs x w2 h hx)
  have HA := hide ha
  obtain ⟨n, hn⟩ : ∃ n, fs.length = n := ⟨_, rfl⟩
  rw [hn] at HS ⊢
  clear hn ha hx
  obtain ⟨bq, hbq⟩ : ∃ bq, hasF fs x = bq := ⟨_, rfl⟩
  rw [hbq] at HS ⊢
  clear hbq
  obtain ⟨bk, sh, ⟨c1, r1, f1, g1⟩, ⟨c2, r2, f2, g2⟩, wd⟩ := x
  unfold Fl.cells at HS ⊢
  simp only [] at HS ⊢
  have HBA := hide (below_al w (.cells #[.string bk, .string sh, .int .i64 c1, .int .i64 r1, .bool f1, .bool g1, .int .i64 c2, .int .i64 r2, .bool f2, .bool g2, .bool wd] fuT))
  go_enter Tryz.func109, Tryz.ntmps109
  go_wp2_with fail
  refine (unhide HS _ (fulls_below (unhide HA) (unhide HBA))).mono ?_
  rintro e w2 ⟨⟨v, rfl, hv⟩, b2⟩
  have HV := hide hv
  have HB := hide (below_nx (unhide HBA) b2)
  clear hv b2
  go_wp2
  go_ret
  exact ⟨by rw [← unhide HV]; rfl, unhide HB⟩
end Go.Proofs.YtloamahbghjjgaaGreatDoor

namespace Go.Proofs.YtloamahbghjjgaaGreatDoor

def stkF : List (List Int) → Nat → List Int → Option (List Int)
  | [], _, free => some free
  | kids :: rest, p, free =>
    if free.length < kids.length then none
    else if free.drop (free.length - kids.length) = kids then stkF rest (p + 1) (free.take (free.length - kids.length) ++ [(p : Int)])
    else none
def standsB (t : List (List Int)) : Bool := match stkF t 0 [] with | some f => f.length == 1 | none => false
end Go.Proofs.YtloamahbghjjgaaGreatDoor

namespace Go.Proofs.YtloamahbghjjgaaGreatDoor

def setK (arr : List Nat) (ks : List Int) (v : Nat) : List Nat := ks.foldl (fun a k => a.set k.toNat v) arr
def stepN (t : List (List Int)) (c : Nat → Nat) (arr : List Nat) (p : Nat) : List Nat := setK arr (t.getD p []) (arr.getD p 0 + c p)
def runN (t : List (List Int)) (c : Nat → Nat) : Nat → List Nat → List Nat
  | 0, arr => arr
  | p + 1, arr => runN t c p (stepN t c arr p)
theorem setK_len : ∀ (ks : List Int) (arr : List Nat) (v : Nat), (setK arr ks v).length = arr.length
  | [], arr, v => rfl
  | k :: ks, arr, v => by
    show (setK (arr.set k.toNat v) ks v).length = _
    rw [setK_len ks]; simp
end Go.Proofs.YtloamahbghjjgaaGreatDoor

namespace Go.Proofs.YtloamahbghjjgaaGreatDoor
open Go.RowKit

def KidsIn (w : World) (p : Np) : Prop := ∃ ka kcap, p.2 = .slice ka p.1.kids.length kcap ∧ p.1.kids.length ≤ kcap ∧ IntsIn w ka p.1.kids
def NodesIn (w : World) (a : Option Addr) (nds : List Nd) : Prop :=
  nds = [] ∨ ∃ g off ps, a = some ⟨g, off, none⟩ ∧ g < w.heap.size ∧ List.map (fun p : Np => p.1) ps = nds ∧ (∀ (i : Nat) (p : Np), ps[i]? = some p → ∀ (j : Nat) (u : Value), (p.1.cells p.2)[j]? = some u → w.cell? ⟨g, off + i * 19 + j, none⟩ = some u) ∧ ∀ p ∈ ps, KidsIn w p
theorem kidsIn_below {w w' : World} {p : Np} (h : KidsIn w p) (hb : Below w.heap.size w w') : KidsIn w' p := by
  obtain ⟨ka, kcap, h1, h2, h3⟩ := h
  exact ⟨ka, kcap, h1, h2, ints_below h3 hb⟩
theorem nodesIn_below {w w' : World} {a : Option Addr} {nds : List Nd} (h : NodesIn w a nds) (hb : Below w.heap.size w w') : NodesIn w' a nds := by
  rcases h with h | ⟨g, off, ps, rfl, hg, hp, hc, hk⟩
  · exact Or.inl h
  · exact Or.inr ⟨g, off, ps, rfl, Nat.lt_of_lt_of_le hg hb.size, hp, fun i p hi j u hu => by rw [hb.cell (p := ⟨g, off + i * 19 + j, none⟩) hg]; exact hc i p hi j u hu, fun p hp => kidsIn_below (hk p hp) hb⟩
theorem flatN_get : ∀ (ps : List Np) (i : Nat) (p : Np), ps[i]? = some p → ∀ (j : Nat) (u : Value), (p.1.cells p.2)[j]? = some u → (flatN ps)[i * 19 + j]? = some u
  | [], i, p, h, _, _, _ => by simp at h
  | x :: ps, 0, p, h, j, u, hu => by
    simp only [List.getElem?_cons_zero, Option.some.injEq] at h
    subst h
    unfold flatN
    rw [List.flatMap_cons, Nat.zero_mul, Nat.zero_add]
    obtain ⟨hlt, _⟩ := Array.getElem?_eq_some_iff.1 hu
    rw [List.getElem?_append_left (by simpa using hlt)]
    simpa using hu
  | x :: ps, i + 1, p, h, j, u, hu => by
    rw [List.getElem?_cons_succ] at h
    have ih := flatN_get ps i p h j u hu
    unfold flatN at ih ⊢
    have hx : (x.1.cells x.2).toList.length = 19 := rfl
    rw [List.flatMap_cons, List.getElem?_append_right (by rw [hx]; omega), hx, show (i + 1) * 19 + j - 19 = i * 19 + j by omega]
    exact ih
theorem nodes_in {T : TypeId} {w : World} {B : Nat} {v : Value} {nds : List Nd} (h : NodeRow T w B v nds) : ∃ a cap, v = .slice a nds.length cap ∧ nds.length ≤ cap ∧ NodesIn w a nds := by
  obtain ⟨ps, hp, hr, hk⟩ := h
  have hl : ps.length = nds.length := by rw [← hp]; simp
  have hk' : ∀ p ∈ ps, KidsIn w p := fun p hpp => ints_of_kids (hk p hpp)
  rw [← hl]
  rcases hr.2 with ⟨rfl, h0⟩ | ⟨g, cap, cur, rfl, hg, hh, hc, _, hs, ht⟩
  · exact ⟨none, 0, by rw [h0], by omega, Or.inl (List.eq_nil_of_length_eq_zero (by omega))⟩
  · refine ⟨_, cap, rfl, hc, Or.inr ⟨g, 0, ps, rfl, (Array.getElem?_eq_some_iff.1 hh).1, hp, fun i p hi j u hu => ?_, hk'⟩⟩
    have h1 := flatN_get ps i p hi j u hu
    rw [← ht] at h1
    rw [cell_of_row w g _ cur T (0, 0) hh, Nat.zero_add]
    rw [List.getElem?_take] at h1
    split at h1
    · simpa using h1
    · cases h1
theorem node_at {w : World} {a : Option Addr} {nds : List Nd} (h : NodesIn w a nds) (i : Nat) (n : Nd) (hi : nds[i]? = some n) : ∃ g off ka kcap, a = some ⟨g, off, none⟩ ∧ g < w.heap.size ∧ n.kids.length ≤ kcap ∧ IntsIn w ka n.kids ∧
    ∀ (j : Nat) (u : Value), (n.cells (.slice ka n.kids.length kcap))[j]? = some u → w.cell? ⟨g, off + i * 19 + j, none⟩ = some u := by
  rcases h with h | ⟨g, off, ps, rfl, hg, hp, hc, hk⟩
  · rw [h] at hi; simp at hi
  · rw [← hp, List.getElem?_map] at hi
    cases hq : ps[i]? with
    | none => rw [hq] at hi; cases hi
    | some p =>
      rw [hq] at hi
      simp only [Option.map_some, Option.some.injEq] at hi
      obtain ⟨ka, kcap, h1, h2, h3⟩ := hk p (List.mem_of_getElem? hq)
      rw [hi] at h1 h2 h3
      refine ⟨g, off, ka, kcap, rfl, hg, h2, h3, fun j u hu => hc i p hq j u ?_⟩
      rw [h1, hi]; exact hu
theorem owns_take {w : World} {B T n k : Nat} {v : Value} {xs : List Value} (h : w.ownsRow B T 1 v n xs) (hk : k ≤ n) : ∃ a cap, v = .slice a n cap ∧ k ≤ cap ∧ n ≤ cap ∧ w.ownsRow B T 1 (.slice a k cap) k (xs.take k) := by
  have hl : xs.length = n := by have := h.1; simpa using this
  rcases h.2 with ⟨rfl, h0⟩ | ⟨g, cap, cur, rfl, hg, hh, hc, hm, hs, ht⟩
  · have : k = 0 := by omega
    subst this
    exact ⟨none, 0, by rw [h0], by omega, by omega, by simp, Or.inl ⟨rfl, rfl⟩⟩
  · refine ⟨_, cap, rfl, by omega, hc, by rw [List.length_take]; omega, Or.inr ⟨g, cap, cur, rfl, hg, hh, by omega, hm, hs, ?_⟩⟩
    rw [← ht, List.take_take]
    congr 1; omega
end Go.Proofs.YtloamahbghjjgaaGreatDoor
