/- What is told once of a tree: the references; the contract of a tree's Refs. -/
import Derived.BigQuiet
import Derived.BigRegion
import Derived.ChangeAlike
import Derived.Deep.AppendLies
import Derived.Deep.CutBlock
import Derived.Deep.CutRange
import Derived.Deep.DeepFit
import Derived.Deep.DeepHandedRow
import Derived.Deep.MidRow
import Derived.Deep.QuietTactic
import Derived.Deep.RegionHeld3
import Derived.Deep.RegionLaw
import Derived.Deep.RegionWith
import Derived.Deep.WholeRow
import Derived.Defers
import Derived.Great.BuildSlice
import Derived.LaidSub
import Derived.Laws.Bits64b
import Derived.Laws.CopyOwn
import Derived.Laws.IdiomStrings
import Derived.Laws.OwnMore
import Derived.Laws.Rows
import Derived.Laws.StructEq
import Derived.Laws.Tables
import Derived.Lay
import Derived.Lib.Atoi
import Derived.Lib.AtoiErrMem
import Derived.Lib.BitFns
import Derived.Lib.CutLaws
import Derived.Lib.IndexMore
import Derived.Lib.ItoaMem
import Derived.Lib.ItoaNum
import Derived.Lib.Join
import Derived.Lib.LaidTab
import Derived.Lib.Replace
import Derived.Lib.Walk
import Derived.LoopIn
import Derived.LoopNIn
import Derived.OpenShut
import Derived.OwnWalkIn
import Derived.ProofKit
import Derived.RangeFuncBound
import Derived.RangeFuncCalls
import Derived.RangeFuncLeaves
import Derived.RangeFuncNested
import Derived.Recover
import Derived.RegionTactic
import Derived.SevenTiedAt
import Derived.Shelf.Abstract
import Derived.Shelf.Bits.Mul64
import Derived.Shelf.LaysM
import Derived.Shelf.RegionOpen
import Derived.Shelf.Small.Bits
import Derived.Shelf.Small.Strs
import Derived.Shelf.Small.Utf8
import Derived.Shelf.Small.Wraps
import Derived.Shelf.Strconv.Atoi
import Derived.Shelf.Strconv.Itoa0
import Derived.Shelf.Strconv.Itoa1
import Derived.Shelf.Strconv.Itoa2
import Derived.Shelf.Strconv.Itoa3
import Derived.Shelf.Strings.AsciiSet
import Derived.Shelf.Strings.Builder1
import Derived.Shelf.Strings.Builder2
import Derived.Shelf.Strings.Count
import Derived.Shelf.Strings.Cut
import Derived.Shelf.Strings.OnBuilder
import Derived.Shelf.Strings.Prefix
import Derived.Shelf.Strings.Replace
import Derived.Shelf.Strings.Runes
import Derived.Shelf.Strings.Search1
import Derived.Shelf.Strings.Search2
import Derived.Shelf.Strings.Search3
import Derived.Shelf.Strings.Shaped
import Derived.Shelf.Strings.Split
import Derived.Shelf.Strings.SplitShaped
import Derived.Shelf.Strings.Trim
import Derived.Shelf.Unicode.DecodeSlow
import Derived.Stop.Joined
import Derived.TacticsInMore
import Derived.Test.YtloamahbghjjgaaGreatDoorCards
import Derived.Test.YtloamahbghjjgaaGreatDoorProg
import Derived.Test.YtloamahbghjjgaaGreatDoorRows
import Derived.Test.YtloamahbghjjgaaGreatDoorTie
import Derived.WalkKit
import Derived.WalkLawsBesides
import Derived.WalkSmall
import Derived.WalkSpells
import Derived.Test.YtloamahbghjjgaaGreatDoorZgAA
import Derived.Test.YtloamahbghjjgaaGreatDoorZgAB
import Derived.Test.YtloamahbghjjgaaGreatDoorZgAC
import Derived.Test.YtloamahbghjjgaaGreatDoorZgAD
import Derived.Test.YtloamahbghjjgaaGreatDoorZgAE
import Derived.Test.YtloamahbghjjgaaGreatDoorZgAF
import Derived.Test.YtloamahbghjjgaaGreatDoorZgAG
import Derived.Test.YtloamahbghjjgaaGreatDoorZgAH
import Derived.Test.YtloamahbghjjgaaGreatDoorZgAI
import Derived.Test.YtloamahbghjjgaaGreatDoorZgAJ
import Derived.Test.YtloamahbghjjgaaGreatDoorZgAK
import Derived.Test.YtloamahbghjjgaaGreatDoorZgAL
import Derived.Test.YtloamahbghjjgaaGreatDoorZgAM
import Derived.Test.YtloamahbghjjgaaGreatDoorZgAN
import Derived.Test.YtloamahbghjjgaaGreatDoorZgAO
import Derived.Test.YtloamahbghjjgaaGreatDoorZgAP
import Derived.Test.YtloamahbghjjgaaGreatDoorZgAQ
import Derived.Test.YtloamahbghjjgaaGreatDoorZgAR
import Derived.Test.YtloamahbghjjgaaGreatDoorZgAS
import Derived.Test.YtloamahbghjjgaaGreatDoorZgAT
import Derived.Test.YtloamahbghjjgaaGreatDoorZgAU
import Derived.Test.YtloamahbghjjgaaGreatDoorZgAV
namespace Go.Proofs.YtloamahbghjjgaaGreatDoor
open Go.RowKit
abbrev zFu : Value := .agg #[.string ⟨#[]⟩, .string ⟨#[]⟩, .int .i64 0, .int .i64 0, .bool false, .bool false, .int .i64 0, .int .i64 0, .bool false, .bool false, .bool false]
theorem infoFu : (Tryz.prog.info? 52).map (fun i => (i.zero, i.size, i.bytes)) = some (some zFu, 11, 88) := by kernel_rfl
def flatF (fs : List Fl) : List Value := fs.flatMap (fun f => f.cells.toList)
theorem flatF_snoc (fs : List Fl) (f : Fl) : flatF (fs ++ [f]) = flatF fs ++ f.cells.toList := by unfold flatF; simp
theorem flatF_get : ∀ (fs : List Fl) (i : Nat) (f : Fl), fs[i]? = some f → ∀ (j : Nat) (u : Value), f.cells[j]? = some u → (flatF fs)[i * 11 + j]? = some u
  | [], i, p, h, _, _, _ => by simp at h
  | x :: fs, 0, p, h, j, u, hu => by
    simp only [List.getElem?_cons_zero, Option.some.injEq] at h
    subst h
    unfold flatF
    rw [List.flatMap_cons, Nat.zero_mul, Nat.zero_add]
    obtain ⟨hlt, _⟩ := Array.getElem?_eq_some_iff.1 hu
    rw [List.getElem?_append_left (by simpa using hlt)]
    simpa using hu
  | x :: fs, i + 1, p, h, j, u, hu => by
    rw [List.getElem?_cons_succ] at h
    have ih := flatF_get fs i p h j u hu
    unfold flatF at ih ⊢
    have hx : x.cells.toList.length = 11 := rfl
    rw [List.flatMap_cons, List.getElem?_append_right (by rw [hx]; omega), hx, show (i + 1) * 11 + j - 11 = i * 11 + j by omega]
    exact ih
abbrev FullRow (w : World) (B : Nat) (v : Value) (fs : List Fl) : Prop := w.ownsRow B fuT 11 v fs.length (flatF fs)
theorem fulls_of_owns {w : World} {B : Nat} {v : Value} {fs : List Fl} (h : FullRow w B v fs) : ∃ a cap, v = .slice a fs.length cap ∧ fs.length ≤ cap ∧ FullsIn w a fs := by
  rcases h.2 with ⟨rfl, h0⟩ | ⟨g, cap, cur, rfl, hg, hh, hc, _, hs, ht⟩
  · exact ⟨none, 0, by rw [h0], by omega, Or.inl (List.eq_nil_of_length_eq_zero h0)⟩
  · refine ⟨_, cap, rfl, hc, Or.inr ⟨g, 0, rfl, (Array.getElem?_eq_some_iff.1 hh).1, fun i f hi j u hu => ?_⟩⟩
    have h1 := flatF_get fs i f hi j u hu
    rw [← ht] at h1
    rw [cell_of_row w g _ cur _ (0, 0) hh, Nat.zero_add]
    rw [List.getElem?_take] at h1
    split at h1
    · simpa using h1
    · cases h1
def onceF (all : List Fl) (n : Nd) : List Fl := if (n.kind == 1) && !hasF all n.ref then all ++ [n.ref] else all
def refsT (nds : List Nd) : List Fl := if tsoundB nds then nds.foldl onceF [] else []
theorem onceF_len : ∀ (l : List Nd) (all : List Fl), (l.foldl onceF all).length ≤ all.length + l.length
  | [], all => Nat.le_refl _
  | n :: l, all => by
    have := onceF_len l (onceF all n)
    have h2 : (onceF all n).length ≤ all.length + 1 := by
      unfold onceF; split <;> simp
    rw [List.foldl_cons, List.length_cons]; omega
set_option maxRecDepth 100000 in
set_option maxHeartbeats 8000000 in
theorem onceF_val (a : Option Addr) (cap : Nat) (nds : List Nd) (w : World) (hn : NodesIn w a nds) (hf : TreeFit nds) :
    Calls Tryz.prog 68 #[.slice a nds.length cap, .func (.func 69) #[] #[]] w fun e w' => (∃ v, e = .returned v ∧ FullRow w' w.heap.size v (refsT nds)) ∧ Below w.heap.size w w' := by
  have HN := hide hn
  have HF := hide hf
  have HS := hide (tsound_val a cap nds w hn hf)
  obtain ⟨res, hres⟩ : ∃ r, refsT nds = r := ⟨_, rfl⟩
  have HRES := hide hres
  rw [hres]
  obtain ⟨sb, hsb⟩ : ∃ sb, tsoundB nds = sb := ⟨_, rfl⟩
  have HSB := hide hsb
  rw [hsb] at HS
  have hl := hf.len
  obtain ⟨n, hnl⟩ : ∃ n, nds.length = n := ⟨_, rfl⟩
  have HNL := hide hnl
  rw [hnl] at HS hl ⊢
  obtain ⟨i0, hi, hz0, hz1, hz2⟩ := info_parts infoFu
  clear hn hf hsb hnl hres
  go_enter Tryz.func68, Tryz.ntmps68
  go_wp2_with fail
  refine (unhide HS).mono ?_
  rintro e w2 ⟨rfl, b2⟩
  have HB := hide b2
  clear b2
  cases sb with
  | false =>
    have HR0 : Hid (res = []) := hide (by rw [← unhide HRES]; unfold refsT; rw [unhide HSB]; rfl)
    go_wp2
    go_ret
    exact ⟨⟨_, rfl, by rw [unhide HR0]; exact World.ownsRow_nil _ _ _ _⟩, unhide HB⟩
  | true =>
    have HR0 : Hid (res = nds.foldl onceF []) := hide (by rw [← unhide HRES]; unfold refsT; rw [unhide HSB]; rfl)
    go_wp2_with fail
    go_loopw [5, 15] (fun v i wr => ∃ (k : Nat) (m : List Fl), i = .int .i64 (k : Int) ∧ k ≤ n ∧ Hid ((nds.take k).foldl onceF [] = m) ∧ Hid (wr.ownsRow w.heap.size fuT 11 v m.length (flatF m)) ∧ Hid (Below w.heap.size w wr)) (fun _ i _ => n - (intOf i).toNat)
    case atStart => exact ⟨0, [], rfl, by omega, hide rfl, hide (World.ownsRow_nil _ _ _ _), HB⟩
    case round =>
      obtain ⟨k, m, rfl, hk, HM, HO, HBW⟩ := hrel
      by_cases hlt : k < n
      · have hlti : (k : Int) < (n : Int) := by omega
        obtain ⟨nd, hnd⟩ : ∃ nd, nds[k]? = some nd := ⟨nds[k]'(by rw [unhide HNL]; exact hlt), List.getElem?_eq_getElem (by rw [unhide HNL]; exact hlt)⟩
        obtain ⟨g, off, ka, kcap, rfl, hg, hkc, hki, hcells⟩ := node_at (nodesIn_below (unhide HN) (unhide HBW)) k nd hnd
        have HTK : Hid ((nds.take (k + 1)).foldl onceF [] = onceF m nd) := hide (by
          rw [List.take_add_one, hnd, List.foldl_append, unhide HM]; rfl)
        have hml : m.length ≤ 1000 := by
          rw [← unhide HM]
          have h1 := onceF_len (nds.take k) []
          rw [List.length_take, unhide HNL, List.length_nil] at h1
          omega
        obtain ⟨va, vcap, rfl, hvc, hvs⟩ := fulls_of_owns (unhide HO)
        have HVS := hide hvs
        have HCR := hide (nd_range hcells)
        have st := nd_new wr nd (.slice ka nd.kids.length kcap) rfl
        have C5 := hide (range_cells0 (cells_new wr ndT (nd.cells (.slice ka nd.kids.length kcap))))
        have zN : (nd.cells (.slice ka nd.kids.length kcap)).size = 19 := rfl
        have HC1 := hide (fun w => refsOne_val nd (.slice ka nd.kids.length kcap) rfl w)
        obtain ⟨cs, hcs⟩ : ∃ cs, nd.cells (.slice ka nd.kids.length kcap) = cs := ⟨_, rfl⟩
        rw [hcs] at HC1 HCR st C5 zN
        have HIN : Hid ((Tryz.prog.info? 55).map (·.size) = some cs.toList.length) := hide (by rw [infoNs, Array.length_toList, zN])
        obtain ⟨b5, hb5⟩ : ∃ b, (nd.kind == 1) = b := ⟨_, rfl⟩
        obtain ⟨x, hx⟩ : ∃ x, nd.ref = x := ⟨_, rfl⟩
        obtain ⟨hc, hhc⟩ : ∃ b, hasF m x = b := ⟨_, rfl⟩
        have HTK2 : Hid (onceF m nd = if b5 && !hc then m ++ [x] else m) := hide (by unfold onceF; rw [hb5, hx, hhc])
        rw [hb5, hx] at HC1
        have HHC := hide hhc
        have HOA := hide ((unhide HO).alloc (.cells cs ndT))
        have HFC := hide (fun w (h : FullsIn w va m) => fcontains_val va vcap m x w h (by omega))
        rw [hhc] at HFC
        clear hb5 hhc hcs hcells hki hnd hvs
        have HXM : Hid (flatF (m ++ [x]) = flatF m ++ x.cells.toList) := hide (flatF_snoc m x)
        obtain ⟨X, hX⟩ : ∃ X, x = X := ⟨_, rfl⟩
        have HX := hide hX
        rw [hX] at HXM
        have HXC : Hid (X.cells.toList = x.cells.toList) := hide (by rw [hX])
        have HTK3 : Hid (onceF m nd = if b5 && !hc then m ++ [X] else m) := hide (by rw [← hX]; exact unhide HTK2)
        clear hX hx HTK2
        obtain ⟨bk, sh, ⟨c1, r1, f1, g1⟩, ⟨c2, r2, f2, g2⟩, wd⟩ := x
        unfold Fl.cells at HC1 HFC HXC
        simp only [] at HC1 HFC HXC
        go_wp2_with (first | (refine wpList_load_mid rfl 55 _ rfl g (off + k * 19) rfl cs.toList _ (unhide HCR) Tryz.underlying55 rfl (unhide HIN) ?_) | (refine wpList_load_mid rfl 55 _ rfl wr.heap.size 0 rfl cs.toList _ (unhide C5) Tryz.underlying55 rfl (unhide HIN) ?_))
        refine (unhide HC1 _).mono ?_
        rintro e w3 ⟨rfl, b3⟩
        have HB3 := hide (below_nx (below_nx (unhide HBW) (below_al wr (.cells cs ndT))) b3)
        have HO3 := hide (owns_grown (unhide HOA) (fun k hk _ => b3.block k hk))
        have HV3 := hide (fulls_below (unhide HVS) (below_nx (below_al wr (.cells cs ndT)) b3))
        clear b3 st
        have HB3a := hide (below_nx (unhide HB3) (below_al w3 (.cells #[.string bk, .string sh, .int .i64 c1, .int .i64 r1, .bool f1, .bool g1, .int .i64 c2, .int .i64 r2, .bool f2, .bool g2, .bool wd] fuT)))
        have HO3a := hide ((unhide HO3).alloc (.cells #[.string bk, .string sh, .int .i64 c1, .int .i64 r1, .bool f1, .bool g1, .int .i64 c2, .int .i64 r2, .bool f2, .bool g2, .bool wd] fuT))
        have HV3a := hide (fulls_below (unhide HV3) (below_al w3 (.cells #[.string bk, .string sh, .int .i64 c1, .int .i64 r1, .bool f1, .bool g1, .int .i64 c2, .int .i64 r2, .bool f2, .bool g2, .bool wd] fuT)))
        have HCN := hide (cells_new w3 fuT #[.string bk, .string sh, .int .i64 c1, .int .i64 r1, .bool f1, .bool g1, .int .i64 c2, .int .i64 r2, .bool f2, .bool g2, .bool wd])
        cases b5 with
        | false =>
          have HR2 : Hid ((nds.take (k + 1)).foldl onceF [] = m) := hide (by rw [unhide HTK, unhide HTK3]; rfl)
          go_wp2
          go_roundw
          case rel => exact ⟨k + 1, m, by go_num, by omega, HR2, HO3a, HB3a⟩
          case measure => simp [intOf]; omega
        | true =>
          go_wp2_with fail
          refine (unhide HFC _ (unhide HV3a)).mono ?_
          rintro e w4 ⟨rfl, b4⟩
          have HB4 := hide (below_nx (unhide HB3a) b4)
          have HO4 := hide (owns_grown (unhide HO3a) (fun k hk _ => b4.block k hk))
          obtain ⟨x0, x1, x2, x3, x4, x5, x6, x7, x8, x9, x10⟩ := cells11x (cells_nx (unhide HCN) b4)
          clear b4
          cases hc with
          | true =>
            have HR2 : Hid ((nds.take (k + 1)).foldl onceF [] = m) := hide (by rw [unhide HTK, unhide HTK3]; rfl)
            clear x0 x1 x2 x3 x4 x5 x6 x7 x8 x9 x10
            go_wp2
            go_roundw
            case rel => exact ⟨k + 1, m, by go_num, by omega, HR2, HO4, HB4⟩
            case measure => simp [intOf]; omega
          | false =>
            have HR2 : Hid ((nds.take (k + 1)).foldl onceF [] = m ++ [X]) := hide (by rw [unhide HTK, unhide HTK3]; rfl)
            have hsz := (unhide HB4).size
            go_wp2_with (at_builtin; refine wpList_append_own _ rfl _ _ 91 rfl w.heap.size fuT i0 zFu 11 88 Tryz.underlying91 hi hz0 hz1 hz2 rfl (by decide) _ _ _ rfl ((unhide HO4).alloc _) ⟨w4.heap.size, 0, none⟩ 1 1 [.string bk, .string sh, .int .i64 c1, .int .i64 r1, .bool f1, .bool g1, .int .i64 c2, .int .i64 r2, .bool f2, .bool g2, .bool wd] rfl rfl (World.news_of_block (heap_alloc_new _ _)) (by simp [Value.oneCell']) (by unfold maxLen; omega) (by omega) (by simp; omega) ?_)
            intro v' w5 hown' hgrow _
            have hlen' : (m ++ [X]).length = m.length + 1 := by rw [List.length_append, List.length_singleton]
            have HO5 : Hid (w5.ownsRow w.heap.size fuT 11 v' (m ++ [X]).length (flatF (m ++ [X]))) := hide (by
              have e : X.cells.toList = [.string bk, .string sh, .int .i64 c1, .int .i64 r1, .bool f1, .bool g1, .int .i64 c2, .int .i64 r2, .bool f2, .bool g2, .bool wd] := unhide HXC
              rw [hlen', unhide HXM, e]
              exact hown')
            have HB5 : Hid (Below w.heap.size w w5) := hide ((below_nx (unhide HB4) (below_al w4 (.cells #[.string bk, .string sh, .int .i64 c1, .int .i64 r1, .bool f1, .bool g1, .int .i64 c2, .int .i64 r2, .bool f2, .bool g2, .bool wd] fuT))).grown hgrow (by simp; omega) (fun j hj => ((unhide HO4).lt j hj).1))
            clear hown' hgrow hlen'
            go_wp2
            go_roundw
            case rel => exact ⟨k + 1, m ++ [X], by go_num, by omega, HR2, HO5, HB5⟩
            case measure => simp [intOf]; omega
      · have hlti : ¬ (k : Int) < (n : Int) := by omega
        have HR1 : Hid (res = m) := hide (by
          have h1 := unhide HM
          rw [List.take_of_length_le (by rw [unhide HNL]; omega)] at h1
          rw [unhide HR0, h1])
        go_wp2
        go_ret
        exact ⟨⟨_, rfl, by rw [unhide HR1]; exact unhide HO⟩, unhide HBW⟩
set_option maxRecDepth 100000 in
set_option maxHeartbeats 2000000 in
theorem refsT_val (a : Option Addr) (cap : Nat) (nds : List Nd) (w : World) (hn : NodesIn w a nds) (hf : TreeFit nds) :
    Calls Tryz.prog 37 #[.slice a nds.length cap] w fun e w' => (∃ v, e = .returned v ∧ FullRow w' w.heap.size v (refsT nds)) ∧ Below w.heap.size w w' := by
  have HS := hide (onceF_val a cap nds w hn hf)
  obtain ⟨n, hnl⟩ : ∃ n, nds.length = n := ⟨_, rfl⟩
  rw [hnl] at HS ⊢
  clear hn hf hnl
  go_enter Tryz.func37, Tryz.ntmps37
  go_wp2_with fail
  refine (unhide HS).mono ?_
  rintro e w2 ⟨⟨v, rfl, ho⟩, b2⟩
  have HO := hide ho
  have HB := hide b2
  clear ho b2
  go_wp2
  go_ret
  exact ⟨⟨_, rfl, unhide HO⟩, unhide HB⟩
end Go.Proofs.YtloamahbghjjgaaGreatDoor

namespace Go.Proofs.YtloamahbghjjgaaGreatDoor
open Go.RowKit
def bs (l : List UInt8) : ByteArray := ⟨l.toArray⟩
theorem bs_size (l : List UInt8) : (bs l).size = l.length := rfl
theorem bs_list (l : List UInt8) : (bs l).data.toList = l := by simp [bs]
def wk6L : List UInt8 := [49, 43, 65, 49, 42, 45, 50]
def wk6N : List Nd := [⟨0, emp, vN 10000, zeroF, []⟩, ⟨1, emp, zVl, zeroF, []⟩, ⟨0, emp, vN 20000, zeroF, []⟩, ⟨2, emp, zVl, zeroF, [2]⟩, ⟨4, ⟨#[42]⟩, zVl, zeroF, [1, 3]⟩, ⟨4, ⟨#[43]⟩, zVl, zeroF, [0, 4]⟩]
theorem wk6_parse : parseL wk6L = (wk6N, 0) := by kernel_rfl
theorem wk6_good : goodT wk6N = true := by kernel_rfl
theorem wk6_nest : nestingT wk6N = 1 := by kernel_rfl
theorem wk6_refs : refsT wk6N = [zeroF] := by kernel_rfl
theorem wk6_text : fullT zeroF = [65, 49] := by kernel_rfl
theorem wk6_fit : TreeFit wk6N := by
  refine ⟨by decide, ?_, ?_, ?_⟩
  all_goals
    intro n hn
    unfold wk6N at hn
    simp only [List.mem_cons, List.not_mem_nil, or_false] at hn
    rcases hn with rfl | rfl | rfl | rfl | rfl | rfl <;> decide
set_option maxRecDepth 100000 in
set_option maxHeartbeats 4000000 in
theorem wakes6 (w : World) (he : Env5 w) :
    Calls Tryz.prog 14 #[] w fun e w' => e = .returned (.bool true) ∧ Below w.heap.size w w' := by
  have HE := hide he
  have HP := hide (parse_val (bs wk6L) w (by decide) he)
  rw [bs_list, wk6_parse] at HP
  unfold PaPost at HP
  simp only [] at HP
  rw [show bs wk6L = (⟨#[49, 43, 65, 49, 42, 45, 50]⟩ : ByteArray) from rfl] at HP
  clear he
  have HG := hide (fun a cap w h => goodT_val a cap wk6N w h wk6_fit)
  have HNS := hide (fun a cap w h => nestingT_val a cap wk6N w h wk6_fit)
  have HRF := hide (fun a cap w h => refsT_val a cap wk6N w h wk6_fit)
  rw [wk6_good] at HG
  rw [wk6_nest] at HNS
  rw [wk6_refs] at HRF
  have HT := hide (fun w (h : Env5 w) => fullText_val zeroF w h.e4)
  rw [wk6_text] at HT
  unfold Fl.cells zeroF at HT
  simp only [] at HT
  go_enter Tryz.func14, Tryz.ntmps14
  go_wp2_with fail
  refine (unhide HP).mono ?_
  rintro e w1 ⟨v, rfl, hrow, bb⟩
  obtain ⟨a, cap, rfl, hcp, hin⟩ := nodes_in hrow
  obtain ⟨g, off, ka3, kc3, rfl, hg, _, _, hc3⟩ := node_at hin 3 _ rfl
  obtain ⟨g', off', ka4, kc4, h4, _, hk4, hi4, hc4⟩ := node_at hin 4 _ rfl
  obtain ⟨rfl, rfl⟩ : g = g' ∧ off = off' := by simpa using h4
  obtain ⟨g', off', ka5, kc5, h5, _, _, _, hc5⟩ := node_at hin 5 _ rfl
  obtain ⟨rfl, rfl⟩ : g = g' ∧ off = off' := by simpa using h5
  have y1 : w1.cell? ⟨g, off + 57, none⟩ = some (.int .i64 2) := hc3 0 _ rfl
  have y2 : w1.cell? ⟨g, off + 77, none⟩ = some (.string ⟨#[42]⟩) := hc4 1 _ rfl
  have y3 : w1.cell? ⟨g, off + 94, none⟩ = some (.slice ka4 2 kc4) := hc4 18 _ rfl
  have y5 : w1.cell? ⟨g, off + 96, none⟩ = some (.string ⟨#[43]⟩) := hc5 1 _ rfl
  obtain ⟨gk, ok, rfl, hgk, hck⟩ : ∃ gk ok, ka4 = some ⟨gk, ok, none⟩ ∧ gk < w1.heap.size ∧ w1.cell? ⟨gk, ok + 1, none⟩ = some (.int .i64 3) := by
    rcases hi4 with h | ⟨gk, ok, rfl, hgk, hck⟩
    · cases h
    · exact ⟨gk, ok, rfl, hgk, hck 1 3 rfl⟩
  have HC := hide (fun w' (b : Below w1.heap.size w1 w') => (⟨(b.cell (p := ⟨g, off + 57, none⟩) hg).trans y1, (b.cell (p := ⟨g, off + 77, none⟩) hg).trans y2, (b.cell (p := ⟨g, off + 94, none⟩) hg).trans y3, (b.cell (p := ⟨g, off + 96, none⟩) hg).trans y5, (b.cell (p := ⟨gk, ok + 1, none⟩) hgk).trans hck⟩ :
    w'.cell? ⟨g, off + 57, none⟩ = some (.int .i64 2) ∧ w'.cell? ⟨g, off + 77, none⟩ = some (.string ⟨#[42]⟩) ∧ w'.cell? ⟨g, off + 94, none⟩ = some (.slice (some ⟨gk, ok, none⟩) 2 kc4) ∧ w'.cell? ⟨g, off + 96, none⟩ = some (.string ⟨#[43]⟩) ∧ w'.cell? ⟨gk, ok + 1, none⟩ = some (.int .i64 3)))
  have HIN := hide hin
  have HB := hide bb
  clear y1 y2 y3 y5 hck hc3 hc4 hc5 h4 h5 hin hrow bb hi4 hg hgk hcp hk4 HP
  rw [show wk6N.length = 6 from rfl] at HG HNS HRF ⊢
  go_wp2_with fail
  refine (unhide HG _ _ _ (unhide HIN)).mono ?_
  rintro e w2 ⟨rfl, b2⟩
  have B2 := hide b2
  clear b2
  go_wp2_with fail
  refine (unhide HNS _ _ _ (nodesIn_below (unhide HIN) (unhide B2))).mono ?_
  rintro e w3 ⟨rfl, b3⟩
  have B3 := hide (below_nx (unhide B2) b3)
  clear b3 B2
  go_wp2_with fail
  refine (unhide HRF _ _ _ (nodesIn_below (unhide HIN) (unhide B3))).mono ?_
  rintro e w4 ⟨⟨v, rfl, ho⟩, b4⟩
  have B4 := hide (below_nx (unhide B3) b4)
  obtain ⟨fa, fcap, rfl, hfc, hfin⟩ := fulls_of_owns ho
  obtain ⟨gf, o, rfl, hgf, z0, z1, z2, z3, z4, z5, z6, z7, z8, z9, z10⟩ := fulls_at hfin 0 zeroF rfl
  rw [Nat.zero_mul, Nat.add_zero] at z0 z1 z2 z3 z4 z5 z6 z7 z8 z9 z10
  unfold zeroF at z0 z1 z2 z3 z4 z5 z6 z7 z8 z9 z10
  simp only [] at z0 z1 z2 z3 z4 z5 z6 z7 z8 z9 z10
  obtain ⟨x1, x2, x3, x5, x4⟩ := unhide HC _ (unhide B4)
  have BX := hide (below_nx (unhide HB) (unhide B4))
  clear ho hfin hgf b4 B3 HC HIN hfc
  rw [show ([zeroF] : List Fl).length = 1 from rfl]
  go_wp2_with fail
  refine (unhide HT _ ((unhide HE).below (unhide BX))).mono ?_
  rintro e w5 ⟨rfl, b5⟩
  have B5 := hide (below_nx (unhide BX) b5)
  clear b5
  go_wp2
  go_ret
  exact ⟨rfl, unhide B5⟩
end Go.Proofs.YtloamahbghjjgaaGreatDoor

namespace Go.Proofs.YtloamahbghjjgaaGreatDoor
open Go.RowKit

theorem long_no {a b : ByteArray} {n m : Nat} (ha : a.size = n) (hb : b.size = m) (h : n + m ≤ 100000) : (9223372036854775807 < a.size + b.size) = False ∧ a.size + b.size ≤ 9223372036854775807 := by
  rw [ha, hb]; exact ⟨eq_false (by omega), by omega⟩
theorem par_bs (l : List UInt8) : ((⟨#[40]⟩ : ByteArray) ++ bs l) ++ ⟨#[41]⟩ = bs (40 :: (l ++ [41])) := by
  unfold bs; apply ByteArray.ext; simp
theorem neg_bs (l : List UInt8) : ((⟨#[45]⟩ : ByteArray) ++ bs l) = bs (45 :: l) := by
  unfold bs; apply ByteArray.ext; simp
theorem call_bs (l : List UInt8) : ((⟨#[102, 40]⟩ : ByteArray) ++ bs l) ++ ⟨#[41]⟩ = bs (102 :: 40 :: (l ++ [41])) := by
  unfold bs; apply ByteArray.ext; simp
theorem pls_bs (l : List UInt8) : ((⟨#[43, 40]⟩ : ByteArray) ++ bs l) ++ ⟨#[41]⟩ = bs (43 :: 40 :: (l ++ [41])) := by
  unfold bs; apply ByteArray.ext; simp
theorem one_bs (l : List UInt8) : (bs l ++ ⟨#[49]⟩ : ByteArray) = bs (l ++ [49]) := by
  unfold bs; apply ByteArray.ext; simp
theorem com_bs (l : List UInt8) : (bs l ++ ⟨#[44]⟩ : ByteArray) = bs (l ++ [44]) := by
  unfold bs; apply ByteArray.ext; simp
theorem sum_bs (l : List UInt8) : (bs l ++ ⟨#[43, 49]⟩ : ByteArray) = bs (l ++ [43, 49]) := by
  unfold bs; apply ByteArray.ext; simp
set_option maxRecDepth 100000 in
set_option maxHeartbeats 8000000 in
theorem parseDeep_law (n : Int) (w : World) (hn : (Lit.int .u8 n).wf = true) (he : Env5 w) :
    Calls Tryz.prog 7 #[.int .u8 n] w fun e w' => e = .returned (.bool true) ∧ Below w.heap.size w w' := by
  have HE := hide he
  clear he
  have hn : 0 ≤ n ∧ n ≤ 255 := by simpa [Lit.wf, IntKind.min, IntKind.max, IntKind.bits, IntKind.signed] using hn
  go_enter Tryz.func7, Tryz.ntmps7
  go_upto_region 2 with fail
  obtain ⟨K, hK, hK4⟩ : ∃ K : Nat, n % 40 = (K : Int) ∧ K < 40 := ⟨(n % 40).toNat, by omega, by omega⟩
  rw [hK]
  clear hK hn
  go_wp2_with fail
  go_loop [4, 5, 6, 7, 27] (fun a b c d i => ∃ k : Nat, k ≤ K ∧ i = .int .i64 (k : Int) ∧ a = .string (bs (dpL k)) ∧ b = .string (bs (dsL k)) ∧ c = .string (bs (dcL k)) ∧ d = .string (bs (daL k))) (fun _ _ _ _ i => K - (intOf i).toNat)
  case atStart => exact ⟨0, by omega, rfl, rfl, rfl, rfl, rfl⟩
  case round =>
    obtain ⟨k, hk, rfl, rfl, rfl, rfl, rfl⟩ := hrel
    by_cases hlt : k < K
    · have hlti : (k : Int) < (K : Int) := by omega
      have p1 := par_bs (dpL k)
      have p2 := neg_bs (dsL k)
      have p3 := call_bs (dcL k)
      have l1 : (bs (dpL k)).size = 2 * k + 1 := (bs_size _).trans (par_told k).2.2.2.2.2
      have l2 : (bs (dsL k)).size = k + 1 := (bs_size _).trans (sign_told k).2.2.2.2.2
      have l3 : (bs (dcL k)).size = 3 * k + 1 := (bs_size _).trans (call_told k).2.2.2.2.2
      have l4 : (daL k).length ≤ 2 * k := (args_told k).2.2.2.2.2.2.1
      obtain ⟨a1, a2⟩ := long_no (a := ⟨#[40]⟩) (n := 1) rfl l1 (by omega)
      have l5 : ((⟨#[40]⟩ : ByteArray) ++ bs (dpL k)).size = 2 * k + 2 := by rw [ByteArray.size_append, l1]; show 1 + _ = _; omega
      obtain ⟨a3, a4⟩ := long_no (b := ⟨#[41]⟩) (m := 1) l5 rfl (by omega)
      obtain ⟨a5, a6⟩ := long_no (a := ⟨#[45]⟩) (n := 1) rfl l2 (by omega)
      obtain ⟨a7, a8⟩ := long_no (a := ⟨#[102, 40]⟩) (n := 2) rfl l3 (by omega)
      have l6 : ((⟨#[102, 40]⟩ : ByteArray) ++ bs (dcL k)).size = 3 * k + 3 := by rw [ByteArray.size_append, l3]; show 2 + _ = _; omega
      obtain ⟨a9, a10⟩ := long_no (b := ⟨#[41]⟩) (m := 1) l6 rfl (by omega)
      have l7 : (bs (daL k)).size = (daL k).length := bs_size _
      obtain ⟨b1, b2⟩ := long_no (b := ⟨#[44]⟩) (m := 1) l7 rfl (by omega)
      have l8 : (bs (daL k ++ [44])).size = (daL k).length + 1 := by rw [bs_size, List.length_append]; rfl
      obtain ⟨b3, b4⟩ := long_no (b := ⟨#[49]⟩) (m := 1) l8 rfl (by omega)
      obtain ⟨b5, b6⟩ := long_no (b := ⟨#[49]⟩) (m := 1) l7 rfl (by omega)
      have p4 := com_bs (daL k)
      have P5 := hide (one_bs (daL k ++ [44]))
      have P6 := hide (one_bs (daL k))
      have hkb : (k : Int) ≤ 40 := by omega
      have hk0 : (0 : Int) ≤ (k : Int) := by omega
      have e1 : dpL (k + 1) = 40 :: (dpL k ++ [41]) := rfl
      have e2 : dsL (k + 1) = 45 :: dsL k := rfl
      have e3 : dcL (k + 1) = 102 :: 40 :: (dcL k ++ [41]) := rfl
      have E1 := hide e1
      have E2 := hide e2
      have E3 := hide e3
      clear l1 l2 l3 l5 l6 l7 l8 e1 e2 e3
      by_cases h0 : 0 < k
      · have h0i : (0 : Int) < (k : Int) := by omega
        have E4 : Hid (daL (k + 1) = (daL k ++ [44]) ++ [49]) := hide (by rw [daL, if_pos h0])
        go_wp2
        go_round
        case rel => exact ⟨k + 1, by omega, by go_num, by rw [unhide E1], by rw [unhide E2], by rw [unhide E3], by rw [unhide E4, ← unhide P5]⟩
        case measure => simp [intOf]; omega
      · have h0i : ¬ (0 : Int) < (k : Int) := by omega
        have E4 : Hid (daL (k + 1) = daL k ++ [49]) := hide (by rw [daL, if_neg h0])
        go_wp2
        go_round
        case rel => exact ⟨k + 1, by omega, by go_num, by rw [unhide E1], by rw [unhide E2], by rw [unhide E3], by rw [unhide E4, ← unhide P6]⟩
        case measure => simp [intOf]; omega
    · have hkK : k = K := by omega
      subst hkK
      have hlti : ¬ (k : Int) < (k : Int) := by omega
      have hkb : (k : Int) ≤ 40 := by omega
      have hk0 : (0 : Int) ≤ (k : Int) := by omega
      go_wp2_with fail
      go_loop [8, 47] (fun a i => ∃ j : Nat, j ≤ 120 + k ∧ i = .int .i64 (j : Int) ∧ a = .string (bs (dmL j))) (fun _ i => 120 + k - (intOf i).toNat)
      case atStart => exact ⟨0, by omega, rfl, rfl⟩
      case round =>
        obtain ⟨j, hj, rfl, rfl⟩ := hrel
        by_cases hlt2 : j < 120 + k
        · have hlti2 : (j : Int) < 120 + (k : Int) := by omega
          have l1 : (bs (dmL j)).size = 2 * j + 1 := (bs_size _).trans (sum_told j).2.2.2.2.2
          obtain ⟨a1, a2⟩ := long_no (b := ⟨#[43, 49]⟩) (m := 2) l1 rfl (by omega)
          have E1 : Hid (bs (dmL j) ++ ⟨#[43, 49]⟩ = bs (dmL (j + 1))) := hide (sum_bs (dmL j))
          clear l1
          go_wp2
          go_round
          case rel => exact ⟨j + 1, by omega, by go_num, by rw [← unhide E1]⟩
          case measure => simp [intOf]; omega
        · have hjk : j = 120 + k := by omega
          subst hjk
          have hlti2 : ¬ ((120 + k : Nat) : Int) < 120 + (k : Int) := by omega
          have H1 := hide (fun w he => parse_val (bs (dpL k)) w (by rw [bs_size, (par_told k).2.2.2.2.2]; omega) he)
          have H2 := hide (fun w he => parse_val (bs (dsL k)) w (by rw [bs_size, (sign_told k).2.2.2.2.2]; omega) he)
          have H3 := hide (fun w he => parse_val (bs (dcL k)) w (by rw [bs_size, (call_told k).2.2.2.2.2]; omega) he)
          have l4 : (daL k).length ≤ 2 * k := (args_told k).2.2.2.2.2.2.1
          have H4 := hide (fun w he => parse_val (bs (102 :: 40 :: (daL k ++ [41]))) w (by rw [bs_size]; simp; omega) he)
          have H5 := hide (fun w he => parse_val (bs (dmL (120 + k))) w (by rw [bs_size, (sum_told (120 + k)).2.2.2.2.2]; omega) he)
          have D1 := hide (deep_par k (by omega))
          have D2 := hide (deep_sign k (by omega))
          have D3 := hide (deep_call k (by omega))
          have D4 := hide (deep_args k (by omega))
          have D5 := hide (full_sum (120 + k) (by omega))
          rw [bs_list] at H1 H2 H3 H4 H5
          generalize parseL (dpL k) = q1 at H1 D1
          generalize parseL (dsL k) = q2 at H2 D2
          generalize parseL (dcL k) = q3 at H3 D3
          generalize parseL (102 :: 40 :: (daL k ++ [41])) = q4 at H4 D4
          generalize parseL (dmL (120 + k)) = q5 at H5 D5
          obtain ⟨n1, x1⟩ := q1
          obtain ⟨n2, x2⟩ := q2
          obtain ⟨n3, x3⟩ := q3
          obtain ⟨n4, x4⟩ := q4
          obtain ⟨n5, x5⟩ := q5
          unfold PaPost at H1 H2 H3 H4 H5
          simp only [] at H1 H2 H3 H4 H5 D1 D2 D3 D4 D5
          have l7 : (bs (daL k)).size = (daL k).length := bs_size _
          obtain ⟨a1, a2⟩ := long_no (a := ⟨#[102, 40]⟩) (n := 2) rfl l7 (by omega)
          have l8 : ((⟨#[102, 40]⟩ : ByteArray) ++ bs (daL k)).size = (daL k).length + 2 := by rw [ByteArray.size_append, l7]; show 2 + _ = _; omega
          obtain ⟨a3, a4⟩ := long_no (b := ⟨#[41]⟩) (m := 1) l8 rfl (by omega)
          have p3 := call_bs (daL k)
          clear l7 l8
          generalize bs (dpL k) = s1 at H1 ⊢
          generalize bs (dsL k) = s2 at H2 ⊢
          generalize bs (dcL k) = s3 at H3 ⊢
          generalize bs (dmL (120 + k)) = s5 at H5 ⊢
          have HB := hide (Below.refl w.heap.size w)
          go_wp2_with fail
          refine (unhide H1 _ (unhide HE)).mono ?_
          rintro e w1 ⟨v1, rfl, _, bb⟩
          replace HB := hide bb
          clear bb H1
          go_wp2_with fail
          refine (unhide H2 _ ((unhide HE).below (unhide HB))).mono ?_
          rintro e w2 ⟨v2, rfl, _, bb⟩
          replace HB := hide (below_nx (unhide HB) bb)
          clear bb H2
          go_wp2_with fail
          refine (unhide H3 _ ((unhide HE).below (unhide HB))).mono ?_
          rintro e w3 ⟨v3, rfl, _, bb⟩
          replace HB := hide (below_nx (unhide HB) bb)
          clear bb H3
          go_wp2_with fail
          refine (unhide H4 _ ((unhide HE).below (unhide HB))).mono ?_
          rintro e w4 ⟨v4, rfl, _, bb⟩
          replace HB := hide (below_nx (unhide HB) bb)
          clear bb H4 a1 a2 a3 a4 p3
          go_wp2_with fail
          refine (unhide H5 _ ((unhide HE).below (unhide HB))).mono ?_
          rintro e w5 ⟨v5, rfl, _, bb⟩
          replace HB := hide (below_nx (unhide HB) bb)
          clear bb H5
          have HWK := hide wakes6
          by_cases c1 : 32 < k
          · have c2 : 256 < 2 * (120 + k) + 1 := by omega
            have e1 : x1 = 8 := by have := unhide D1; rw [if_pos c1] at this; exact this
            have e2 : x2 = 8 := by have := unhide D2; rw [if_pos c1] at this; exact this
            have e3 : x3 = 8 := by have := unhide D3; rw [if_pos c1] at this; exact this
            have e4 : x4 = 7 := by have := unhide D4; rw [if_pos c1] at this; exact this
            have e5 : x5 = 10 := by have := unhide D5; rw [if_pos c2] at this; exact this
            subst e1 e2 e3 e4 e5
            have i1 : (32 : Int) < (k : Int) := by omega
            have i2 : (256 : Int) < 1 + 2 * (120 + (k : Int)) := by omega
            clear D1 D2 D3 D4 D5 c1 c2
            go_wp2_with fail
            refine (unhide HWK _ ((unhide HE).below (unhide HB))).mono ?_
            rintro e w6 ⟨rfl, bb⟩
            replace HB := hide (below_nx (unhide HB) bb)
            clear bb
            go_wp2
            go_ret
            exact ⟨rfl, unhide HB⟩
          · have e1 : x1 = 0 := by have := unhide D1; rw [if_neg c1] at this; exact this
            have e2 : x2 = 0 := by have := unhide D2; rw [if_neg c1] at this; exact this
            have e3 : x3 = 0 := by have := unhide D3; rw [if_neg c1] at this; exact this
            have e4 : x4 = 0 := by have := unhide D4; rw [if_neg c1] at this; exact this
            subst e1 e2 e3 e4
            have i1 : ¬ (32 : Int) < (k : Int) := by omega
            by_cases c2 : 256 < 2 * (120 + k) + 1
            · have e5 : x5 = 10 := by have := unhide D5; rw [if_pos c2] at this; exact this
              subst e5
              have i2 : (256 : Int) < 1 + 2 * (120 + (k : Int)) := by omega
              clear D1 D2 D3 D4 D5 c1 c2
              go_wp2_with fail
              refine (unhide HWK _ ((unhide HE).below (unhide HB))).mono ?_
              rintro e w6 ⟨rfl, bb⟩
              replace HB := hide (below_nx (unhide HB) bb)
              clear bb
              go_wp2
              go_ret
              exact ⟨rfl, unhide HB⟩
            · have e5 : x5 = 0 := by have := unhide D5; rw [if_neg c2] at this; exact this
              subst e5
              have i2 : ¬ (256 : Int) < 1 + 2 * (120 + (k : Int)) := by omega
              clear D1 D2 D3 D4 D5 c1 c2
              go_wp2_with fail
              refine (unhide HWK _ ((unhide HE).below (unhide HB))).mono ?_
              rintro e w6 ⟨rfl, bb⟩
              replace HB := hide (below_nx (unhide HB) bb)
              clear bb
              go_wp2
              go_ret
              exact ⟨rfl, unhide HB⟩
end Go.Proofs.YtloamahbghjjgaaGreatDoor

namespace Go.Proofs.YtloamahbghjjgaaGreatDoor
open Go.ChangeShapes Go.WideShapes Go.ChangeAt Go.RowKit

theorem own5 : ownKnob Tryz.prog.godebug = none := by kernel_rfl
theorem gTab5 : Tryz.prog.globalNamed "internal/strconv.uint64pow10" = some 7 := by kernel_rfl
theorem gTabType5 : (Tryz.prog.globals[7]?).map (·.type) = some 269 := by kernel_rfl
theorem cellsTab5 : Tryz.prog.cellsOf 269 = 20 := by kernel_rfl
theorem cellsU5 : Tryz.prog.cellsOf 208 = 1 := by kernel_rfl
theorem gSig5 : Tryz.prog.globalNamed "lattice/value.signs" = some 1 := by kernel_rfl
theorem gSigType5 : (Tryz.prog.globals[1]?).map (·.type) = some 219 := by kernel_rfl
theorem gTwo5 : Tryz.prog.globalNamed "lattice/lex.twoSigns" = some 0 := by kernel_rfl
theorem gTwoType5 : (Tryz.prog.globals[0]?).map (·.type) = some 186 := by kernel_rfl
theorem cellsS5 : Tryz.prog.cellsOf 9 = 1 := by kernel_rfl

def strData {H : Type} (zs : List (List UInt8)) : DataW H := .agg (zs.map fun z => .lit (.string z))
theorem strs_of_laid {P : Program} {W : World} {name : String} {zs : List (List UInt8)} {g : Nat} {t e : TypeId} {n : Nat}
    (hg : P.globalNamed name = some g) (hty : (P.globals[g]?).map (·.type) = some t) (ht : P.underlying t = some (.array n e)) (he : P.underlying e = some .string) (hce : P.cellsOf e = 1)
    (h : laidMet P [(name, strData zs)] W) (i : Nat) (z : List UInt8) (hz : zs[i]? = some z) : W.cell? ⟨g, i, none⟩ = some (.string ⟨z.toArray⟩) := by
  obtain ⟨ps, ⟨g', t', cs, fuel, p, q, hg', ht', hvar, hd, _, _⟩, _⟩ := h
  obtain rfl := Option.some.inj (hg.symm.trans hg')
  obtain rfl := Option.some.inj (hty.symm.trans ht')
  obtain ⟨xs, m, _, hx, _, hl, hi⟩ := DataW.trod_array ht hd
  have hxs : xs.map (·.1) = zs.map fun z => (DataW.lit (.string z) : DataW Unit) := by
    have := congrArg Prod.fst hx
    simpa [strData] using this.symm
  have hzl : zs.length = n := by
    have := congrArg List.length hxs
    simp at this
    omega
  have hin : i < n := by
    have := (List.getElem?_eq_some_iff.1 hz).1
    omega
  have h0 := hi i hin
  obtain ⟨b, hb⟩ : ∃ b, xs[i]? = some b := ⟨xs[i]'(by omega), List.getElem?_eq_getElem (by omega)⟩
  rw [hb, hce, Nat.mul_one] at h0
  obtain ⟨s, hc, rfl, _⟩ := DataW.trod_string he h0
  have h1 : cs[i]? = some (.string s) := by
    have := congrArg (·[0]?) hc
    simpa [List.getElem?_take, List.getElem?_drop] using this
  have h2 : (xs.map (·.1))[i]? = some (DataW.lit (.string s.data.toList) : DataW Unit) := by simp [hb]
  rw [hxs] at h2
  simp only [List.getElem?_map, Option.map_eq_some_iff, DataW.lit.injEq, Lit.string.injEq] at h2
  obtain ⟨z', hz', e1⟩ := h2
  rw [hz] at hz'
  obtain rfl := Option.some.inj hz'
  have := World.var?_cell hg hvar i
  rw [e1]
  simpa [h1] using this

abbrev laid5 : List (String × DataW Unit) := Rows.parseReadsRow.laid
theorem laid5_one : (laid5.filter fun x => x.1 == "internal/strconv.uint64pow10") = [("internal/strconv.uint64pow10", Lib.tabData .u64 Lib.pow10Tab)] := by kernel_rfl
theorem laid5_sig : (laid5.filter fun x => x.1 == "lattice/value.signs") = [("lattice/value.signs", strData (signL.map (·.data.toList)))] := by kernel_rfl
theorem laid5_two : (laid5.filter fun x => x.1 == "lattice/lex.twoSigns") = [("lattice/lex.twoSigns", strData [[60, 61], [62, 61], [60, 62]])] := by kernel_rfl
theorem tab5_of {W : World} (h : laidMetH Tryz.prog laid5 W) : Lib.TabIs Tryz.prog W "internal/strconv.uint64pow10" .u64 Lib.pow10Tab := by
  have h1 := h.filter (fun x => x.1 == "internal/strconv.uint64pow10")
  rw [laid5_one] at h1
  exact Lib.tabIs_of_head (rest := []) gTab5 gTabType5 Tryz.underlying269 Tryz.underlying208 cellsU5 cellsTab5 h1
theorem sig5_of {W : World} (h : laidMetH Tryz.prog laid5 W) : signTab W := by
  have h1 := h.filter (fun x => x.1 == "lattice/value.signs")
  rw [laid5_sig] at h1
  intro i hi
  have h9 : i = 0 ∨ i = 1 ∨ i = 2 ∨ i = 3 ∨ i = 4 ∨ i = 5 ∨ i = 6 ∨ i = 7 ∨ i = 8 := by omega
  have := fun z hz => strs_of_laid gSig5 gSigType5 Tryz.underlying219 Tryz.underlying9 cellsS5 h1 i z hz
  rcases h9 with rfl | rfl | rfl | rfl | rfl | rfl | rfl | rfl | rfl <;> exact this _ rfl
theorem two5_of {W : World} (h : laidMetH Tryz.prog laid5 W) : twoTab W := by
  have h1 := h.filter (fun x => x.1 == "lattice/lex.twoSigns")
  rw [laid5_two] at h1
  have := fun i z hz => strs_of_laid gTwo5 gTwoType5 Tryz.underlying186 Tryz.underlying9 cellsS5 h1 i z hz
  exact ⟨this 0 _ rfl, this 1 _ rfl, this 2 _ rfl⟩
theorem env5_of {W : World} (h : laidMetH Tryz.prog laid5 W) (hs : W.ShapedOpen Tryz.prog) : Env5 W := ⟨⟨tab5_of h, Tryz.laysM145.s1_3 W hs⟩, sig5_of h, two5_of h⟩
theorem laid5_met (os : Os) (args : Array Value) : laidMet Tryz.prog laid5 ((World.laidAll Tryz.prog os laid5).forCall (fun _ _ => 0) ⟨#[], args, []⟩).memory :=
  laidMet_laidAll _ (by kernel_rfl) (by kernel_rfl)
end Go.Proofs.YtloamahbghjjgaaGreatDoor
