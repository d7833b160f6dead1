/- What is told of a node: whether it is a reference, and of what. -/
import Derived.BigQuiet
import Derived.BigRegion
import Derived.ChangeAlike
import Derived.Deep.AppendLies
import Derived.Deep.CutBlock
import Derived.Deep.CutRange
import Derived.Deep.DeepFit
import Derived.Deep.MidRow
import Derived.Deep.QuietTactic
import Derived.Deep.RegionHeld3
import Derived.Deep.RegionLaw
import Derived.Deep.RegionWith
import Derived.Deep.WholeRow
import Derived.Defers
import Derived.Great.BuildSlice
import Derived.Laws.Bits64b
import Derived.Laws.CopyOwn
import Derived.Laws.IdiomStrings
import Derived.Laws.OwnMore
import Derived.Laws.Rows
import Derived.Laws.StructEq
import Derived.Laws.Tables
import Derived.Lib.Atoi
import Derived.Lib.AtoiErrMem
import Derived.Lib.BitFns
import Derived.Lib.CutLaws
import Derived.Lib.IndexMore
import Derived.Lib.ItoaMem
import Derived.Lib.ItoaNum
import Derived.Lib.Join
import Derived.Lib.Replace
import Derived.Lib.Walk
import Derived.LoopIn
import Derived.LoopNIn
import Derived.OwnWalkIn
import Derived.RangeFuncBound
import Derived.RangeFuncCalls
import Derived.RangeFuncLeaves
import Derived.RangeFuncNested
import Derived.Recover
import Derived.RegionTactic
import Derived.Shelf.Abstract
import Derived.Shelf.Bits.Mul64
import Derived.Shelf.LaysM
import Derived.Shelf.RegionOpen
import Derived.Shelf.Small.Bits
import Derived.Shelf.Small.Strs
import Derived.Shelf.Small.Utf8
import Derived.Shelf.Small.Wraps
import Derived.Shelf.Strconv.Atoi
import Derived.Shelf.Strconv.Itoa0
import Derived.Shelf.Strconv.Itoa1
import Derived.Shelf.Strconv.Itoa2
import Derived.Shelf.Strconv.Itoa3
import Derived.Shelf.Strings.AsciiSet
import Derived.Shelf.Strings.Builder1
import Derived.Shelf.Strings.Builder2
import Derived.Shelf.Strings.Count
import Derived.Shelf.Strings.Cut
import Derived.Shelf.Strings.OnBuilder
import Derived.Shelf.Strings.Prefix
import Derived.Shelf.Strings.Replace
import Derived.Shelf.Strings.Runes
import Derived.Shelf.Strings.Search1
import Derived.Shelf.Strings.Search2
import Derived.Shelf.Strings.Search3
import Derived.Shelf.Strings.Shaped
import Derived.Shelf.Strings.Split
import Derived.Shelf.Strings.SplitShaped
import Derived.Shelf.Strings.Trim
import Derived.Shelf.Unicode.DecodeSlow
import Derived.TacticsInMore
import Derived.Test.YtloamahbghjjgaaGreatDoorProg
import Derived.Test.YtloamahbghjjgaaGreatDoorRows
import Derived.WalkKit
import Derived.WalkLawsBesides
import Derived.WalkSmall
import Derived.WalkSpells
import Derived.Test.YtloamahbghjjgaaGreatDoorZgAA
import Derived.Test.YtloamahbghjjgaaGreatDoorZgAB
import Derived.Test.YtloamahbghjjgaaGreatDoorZgAC
import Derived.Test.YtloamahbghjjgaaGreatDoorZgAD
import Derived.Test.YtloamahbghjjgaaGreatDoorZgAE
import Derived.Test.YtloamahbghjjgaaGreatDoorZgAF
import Derived.Test.YtloamahbghjjgaaGreatDoorZgAG
import Derived.Test.YtloamahbghjjgaaGreatDoorZgAH
import Derived.Test.YtloamahbghjjgaaGreatDoorZgAI
import Derived.Test.YtloamahbghjjgaaGreatDoorZgAJ
import Derived.Test.YtloamahbghjjgaaGreatDoorZgAK
import Derived.Test.YtloamahbghjjgaaGreatDoorZgAL
import Derived.Test.YtloamahbghjjgaaGreatDoorZgAM
import Derived.Test.YtloamahbghjjgaaGreatDoorZgAN
import Derived.Test.YtloamahbghjjgaaGreatDoorZgAO
import Derived.Test.YtloamahbghjjgaaGreatDoorZgAP
import Derived.Test.YtloamahbghjjgaaGreatDoorZgAQ
import Derived.Test.YtloamahbghjjgaaGreatDoorZgAR
import Derived.Test.YtloamahbghjjgaaGreatDoorZgAS
import Derived.Test.YtloamahbghjjgaaGreatDoorZgAT
import Derived.Test.YtloamahbghjjgaaGreatDoorZgAU
namespace Go.Proofs.YtloamahbghjjgaaGreatDoor
open Go.RowKit
set_option maxRecDepth 100000 in
set_option maxHeartbeats 4000000 in
theorem refsOne_val (nd : Nd) (kv : Value) (hkv : kv.oneCell' = true) (w : World) :
    Calls Tryz.prog 69 #[.agg (nd.cells kv)] w fun e w' => e = .returned (.tuple #[.agg nd.ref.cells, .bool (nd.kind == 1)]) ∧ Below w.heap.size w w' := by
  have st := nd_new w nd kv hkv
  have C5 := hide (cells_new w ndT (nd.cells kv))
  have zN : (nd.cells kv).size = 19 := rfl
  obtain ⟨kd, op, vl, ⟨bk, sh, ⟨c1, r1, f1, g1⟩, ⟨c2, r2, f2, g2⟩, wd⟩, ks⟩ := nd
  obtain ⟨v0, v1, v2, v3, v4⟩ := vl
  unfold Nd.cells at st C5 zN ⊢
  unfold Fl.cells
  simp only [] at st C5 zN ⊢
  clear zN
  have HBA := hide (Below.refl w.heap.size w |>.alloc (Nat.le_refl _) (.cells #[.int .i64 kd, .string op, .int .i64 v0, .int .i64 v1, .string v2, .bool v3, .int .i64 v4, .string bk, .string sh, .int .i64 c1, .int .i64 r1, .bool f1, .bool g1, .int .i64 c2, .int .i64 r2, .bool f2, .bool g2, .bool wd, kv] ndT))
  go_enter Tryz.func69, Tryz.ntmps69
  go_upto_region 1 with fail
  clear st
  obtain ⟨p0, p1, p2, p3, p4, p5, p6, p7, p8, p9, p10, p11, p12, p13, p14, p15, p16, p17, p18⟩ := nd_cells (cells_al (unhide C5) (.cells #[.string ⟨#[]⟩, .string ⟨#[]⟩, .int .i64 0, .int .i64 0, .bool false, .bool false, .int .i64 0, .int .i64 0, .bool false, .bool false, .bool false] fuT))
  go_region
  go_wp2
  refine bodyPost_ret (results_c1t rfl _ _ _ _ _ _ rfl (cells_drew (cells_new2 _ _ _ _)) Tryz.underlying52 rfl (by kernel_rfl) (.bool (kd == 1)) rfl) rfl ?_
  exact ⟨rfl, (below_al2 _ _ _).drew⟩
end Go.Proofs.YtloamahbghjjgaaGreatDoor

namespace Go.Proofs.YtloamahbghjjgaaGreatDoor
open Go.RowKit

def tsoundB (nds : List Nd) : Bool := (!nds.isEmpty && decide (nds.length ≤ 256)) && (nds.all soundB && standsB (nds.map (·.kids)))
structure TreeFit (nds : List Nd) : Prop where
  len : nds.length ≤ 1000
  kids : ∀ n ∈ nds, n.kids.length ≤ 1000
  text : ∀ n ∈ nds, n.val.text.size ≤ 1000000
  op : ∀ n ∈ nds, n.op.size ≤ 1000000
set_option maxRecDepth 100000 in
set_option maxHeartbeats 4000000 in
theorem tsound_val (a : Option Addr) (cap : Nat) (nds : List Nd) (w : World) (hn : NodesIn w a nds) (hf : TreeFit nds) :
    Calls Tryz.prog 41 #[.slice a nds.length cap] w fun e w' => e = .returned (.bool (tsoundB nds)) ∧ Below w.heap.size w w' := by
  have HN := hide hn
  have HF := hide hf
  obtain ⟨sb, hsb⟩ : ∃ sb, tsoundB nds = sb := ⟨_, rfl⟩
  have HSB := hide hsb
  rw [hsb]
  have hl := hf.len
  clear hn hf hsb
  obtain ⟨n, hnl⟩ : ∃ n, nds.length = n := ⟨_, rfl⟩
  have HNL := hide hnl
  have HST := hide (fun w2 h => stands_val a cap nds w2 h (unhide HF).len (unhide HF).kids)
  rw [hnl] at hl HST ⊢
  clear hnl
  by_cases h0 : n = 0
  · have HQ : sb = false := by
      rw [← unhide HSB]
      have : nds = [] := List.eq_nil_of_length_eq_zero (by rw [unhide HNL]; exact h0)
      rw [this]; rfl
    subst HQ h0
    go_enter Tryz.func41, Tryz.ntmps41
    go_wp2
    go_ret
    exact ⟨rfl, Below.refl _ _⟩
  have hne : nds.isEmpty = false := by
    cases hq : nds with
    | nil => rw [hq] at HNL; exact absurd (unhide HNL).symm h0
    | cons x l => rfl
  have h0i : ¬ ((n : Int) = 0) := by omega
  by_cases h256 : 256 < n
  · have HQ : sb = false := by
      rw [← unhide HSB]
      unfold tsoundB
      rw [unhide HNL, decide_eq_false (by omega)]
      simp
    have hi : (256 : Int) < (n : Int) := by omega
    subst HQ
    clear h0 h256
    go_enter Tryz.func41, Tryz.ntmps41
    go_wp2
    go_ret
    exact ⟨rfl, Below.refl _ _⟩
  have HQ : Hid (sb = (nds.all soundB && standsB (nds.map (·.kids)))) := hide (by
    rw [← unhide HSB]
    unfold tsoundB
    rw [unhide HNL, decide_eq_true (by omega), hne]
    simp)
  have hi : ¬ (256 : Int) < (n : Int) := by omega
  clear h0 h256 hne
  go_enter Tryz.func41, Tryz.ntmps41
  go_wp2_with fail
  go_loopw [15] (fun v wr => ∃ k : Nat, v = .int .i64 (k : Int) ∧ k ≤ n ∧ Hid ((nds.take k).all soundB = true) ∧ Hid (Below w.heap.size w wr)) (fun v _ => n - (intOf v).toNat)
  case atStart => exact ⟨0, rfl, by omega, hide rfl, hide (Below.refl _ _)⟩
  case round =>
    obtain ⟨k, rfl, hk, HA, HB⟩ := hrel
    by_cases hlt : k < n
    · have hlti : (k : Int) < (n : Int) := by omega
      obtain ⟨nd, hnd⟩ : ∃ nd, nds[k]? = some nd := ⟨nds[k]'(by rw [unhide HNL]; exact hlt), List.getElem?_eq_getElem (by rw [unhide HNL]; exact hlt)⟩
      obtain ⟨g, off, ka, kcap, rfl, hg, hkc, hki, hcells⟩ := node_at (nodesIn_below (unhide HN) (unhide HB)) k nd hnd
      have hmem := List.mem_of_getElem? hnd
      have HS := hide (fun w => nsound_val nd ka kcap w ((unhide HF).text nd hmem) ((unhide HF).op nd hmem))
      have HTK : Hid (nds.take (k + 1) = nds.take k ++ [nd]) := hide (by
        rw [List.take_add_one, hnd]; rfl)
      have HCR := hide (nd_range hcells)
      have st := nd_new wr nd (.slice ka nd.kids.length kcap) rfl
      have C5 := hide (range_cells0 (cells_new wr ndT (nd.cells (.slice ka nd.kids.length kcap))))
      have zN : (nd.cells (.slice ka nd.kids.length kcap)).size = 19 := rfl
      have HMM := hide hmem
      obtain ⟨cs, hcs⟩ : ∃ cs, nd.cells (.slice ka nd.kids.length kcap) = cs := ⟨_, rfl⟩
      rw [hcs] at HS HCR st C5 zN
      have HIN : Hid ((Tryz.prog.info? 55).map (·.size) = some cs.toList.length) := hide (by rw [infoNs, Array.length_toList, zN])
      obtain ⟨b, hb⟩ : ∃ b, soundB nd = b := ⟨_, rfl⟩
      have HBD := hide hb
      rw [hb] at HS
      clear hb hcs hcells hnd hki hmem
      go_wp2_with (first | (refine wpList_load_mid rfl 55 _ rfl g (off + k * 19) rfl cs.toList _ (unhide HCR) Tryz.underlying55 rfl (unhide HIN) ?_) | (refine wpList_load_mid rfl 55 _ rfl wr.heap.size 0 rfl cs.toList _ (unhide C5) Tryz.underlying55 rfl (unhide HIN) ?_))
      refine (unhide HS _).mono ?_
      rintro e w2 ⟨rfl, b2⟩
      have HB2 := hide (below_nx (below_nx (unhide HB) (below_al wr (.cells cs 55))) b2)
      clear b2 st
      cases b with
      | true =>
        have HA2 : Hid ((nds.take (k + 1)).all soundB = true) := hide (by
          rw [unhide HTK, List.all_append, unhide HA]
          simp [unhide HBD])
        go_wp2
        go_roundw
        case rel => exact ⟨k + 1, by go_num, by omega, HA2, HB2⟩
        case measure => simp [intOf]; omega
      | false =>
        have HQ2 : Hid (sb = false) := hide (by
          rw [unhide HQ]
          have : nds.all soundB = false := by
            rw [List.all_eq_false]
            exact ⟨nd, unhide HMM, by rw [unhide HBD]; simp⟩
          rw [this]; rfl)
        go_wp2
        go_ret
        exact ⟨by rw [unhide HQ2]; rfl, unhide HB2⟩
    · have hlti : ¬ (k : Int) < (n : Int) := by omega
      have HQ2 : Hid (sb = standsB (nds.map (·.kids))) := hide (by
        have h1 := unhide HA
        rw [List.take_of_length_le (by rw [unhide HNL]; omega)] at h1
        rw [unhide HQ, h1]; simp)
      have HS := hide (unhide HST wr (nodesIn_below (unhide HN) (unhide HB)))
      rw [← unhide HQ2] at HS
      go_wp2_with fail
      refine (unhide HS).mono ?_
      rintro e w2 ⟨rfl, b2⟩
      have HB2 := hide (below_nx (unhide HB) b2)
      clear b2
      go_wp2
      go_ret
      exact ⟨rfl, unhide HB2⟩
end Go.Proofs.YtloamahbghjjgaaGreatDoor

namespace Go.Proofs.YtloamahbghjjgaaGreatDoor
open Go.RowKit Go.Shelf
attribute [local go_sem] Oper.semAt_some

theorem wpListIn_load_mid {F : Fence} {n : Nat} {P : Program} {ops : Array Oper} {rest : List Oper} {op : Oper} {a : Act} {w : World} {Q : Exit → Act → World → Prop} (hgd : op.guard = none) (ty : TypeId) (x : Operand) (ho : op.op = .load ty x)
    (b o : Nat) (hx : a.eval x = .pointer (some ⟨b, o, none⟩)) (cs : List Value) (d : TypeDesc) (hc : w.rangeAt b o cs)
    (hu : P.underlying ty = some d) (hd : d.isRow = true) (hi : (P.info? ty).map (·.size) = some cs.length)
    (h : wpListIn F n P ops Q rest (a.put op.dst (.agg cs.toArray)) w) : wpListIn F n P ops Q (op :: rest) a w := by
  refine wpListIn_plain hgd fun K hK => ?_
  unfold Oper.wpIn
  refine ⟨?_, ?_⟩
  · simp [Oper.about, ho]
  · rw [Oper.semAt_plain F _ _ (by rw [ho]; intro c hc'; cases hc')]
    simp only [execOp, ho, hx, Instr.loadAt, Instr.sureAddr, Sem.run_bind, Sem.run_pure, Result.andThen_ok, run_loadVar_mid w b o ty cs d hc hu hd hi]
    exact hK _ _ h

def dnl : Nat → List Nat
  | 0 => []
  | n + 1 => n :: dnl n
theorem dnl_len : ∀ n, (dnl n).length = n
  | 0 => rfl
  | n + 1 => by rw [dnl, List.length_cons, dnl_len n]
def KpB (n₀ Bs : Nat) (t : TypeId) (W W' : World) : Prop := Below n₀ W W' ∧ ∀ v, Boxed W Bs t v → Boxed W' Bs t v
theorem kpB_t {n₀ Bs : Nat} {t : TypeId} {A B C : World} (h1 : KpB n₀ Bs t A B) (h2 : KpB n₀ Bs t B C) : KpB n₀ Bs t A C := ⟨h1.1.trans h2.1, fun v h => h2.2 v (h1.2 v h)⟩
set_option maxRecDepth 100000 in
set_option maxHeartbeats 2000000 in
theorem back1_in (F : Fence) (n : Nat) (h99 : F.fn 122) (hro : F.round = none) (hn : 1 ≤ n) (l Bs n₀ b off len cap : Nat) (cf : Nat → List Value) (hreach : len ≤ 100000) (hb : b < n₀) (hcl : ∀ p, p < len → (cf p).length = 19)
    (J Jx : List (Fin len) → World → Prop)
    (hY : ∀ pre x W, J pre W → pre.length < len → YieldAt F (n - 1) Tryz.prog l #[.int .i64 (x.1 : Int), .agg (cf x.1).toArray] W fun e W' =>
      (e = .returned (.bool true) ∧ J (pre ++ [x]) W' ∧ KpB n₀ Bs 23 W W') ∨ (e = .returned (.bool false) ∧ Jx (pre ++ [x]) W'))
    (W : World) (hBs : Boxed W Bs 23 (.slice (some ⟨b, off, none⟩) len cap)) (hc : ∀ p, p < len → W.rangeAt b (off + p * 19) (cf p)) (h0 : J [] W) :
    CallsIn F n Tryz.prog 122 #[.func (.yield l) #[] #[], .pointer (some ⟨Bs, 0, none⟩)] W fun e W' => (∃ v, e = .returned v) ∧
      ((∃ ys : List (Fin len), ys.map (·.1) = dnl len ∧ J ys W') ∨ (∃ pre : List (Fin len), True ∧ Jx pre W')) := by
  refine callsIn_of_wp Tryz.func122 rfl h99 ?_ hro
  simp only [Tryz.ntmps122, List.size_toArray, List.length_cons, List.length_nil, Nat.reduceAdd, Nat.reduceSub, Array.replicate_succ, Array.replicate_zero, List.push_toArray, List.append_toArray, List.nil_append, List.cons_append]
  have hBc := hBs.cell
  gi_wp2
  gi_loopw [3] (fun i wr => ∃ (m : Nat) (pre : List (Fin len)), m ≤ len ∧ i = .int .i64 ((m : Int) - 1) ∧ pre.map (·.1) ++ dnl m = dnl len ∧ J pre wr ∧ KpB n₀ Bs 23 W wr)
    (fun i _ => (intOf i + 1).toNat)
  case atStart => exact ⟨len, [], Nat.le_refl _, rfl, by simp, h0, Below.refl _ _, fun v h => h⟩
  case round =>
    obtain ⟨m, pre, hm, rfl, hp, hJs, hnx⟩ := hrel
    have hpl : pre.length + m = len := by
      have := congrArg List.length hp
      rwa [List.length_append, List.length_map, dnl_len, dnl_len] at this
    cases m with
    | zero =>
      gi_wp2
      go_end0
      exact ⟨⟨_, rfl⟩, .inl ⟨pre, by simpa [dnl] using hp, hJs⟩⟩
    | succ p =>
      have hpl' : p < len := by omega
      obtain ⟨fn, tmps, assign, body, hy, hR⟩ := hY pre ⟨p, hpl'⟩ wr hJs (by omega)
      dsimp only at hy
      have hbx := (hnx.2 _ hBs).cell
      have hi1 : (((p + 1 : Nat) : Int) - 1) = (p : Int) := by omega
      rw [hi1]
      have hrg : wr.rangeAt b (off + p * 19) (cf p) := fun j v hj => (hnx.1.cell (p := ⟨b, off + p * 19 + j, none⟩) hb).trans (hc p hpl' j v hj)
      have hsz : (Tryz.prog.info? 55).map (·.size) = some (cf p).length := by rw [infoNs, hcl p hpl']
      gi_wp2_with (refine wpListIn_load_mid rfl 55 _ rfl b (off + p * 19) rfl (cf p) _ hrg Tryz.underlying55 rfl hsz ?_)
      refine hR.mono ?_
      rintro e W3 (⟨rfl, hJ3, hk3⟩ | ⟨rfl, hJx3⟩)
      · gi_wp2
        go_roundw
        case rel => exact ⟨p, pre ++ [⟨p, hpl'⟩], by omega, by simp, by rw [← hp]; simp [dnl], hJ3, kpB_t hnx hk3⟩
        case measure => simp [intOf]
      · gi_wp2
        refine bodyPost_ret (results_none rfl _ _ _) rfl ?_
        exact ⟨⟨_, rfl⟩, .inr ⟨_, trivial, hJx3⟩⟩
set_option maxHeartbeats 1000000 in
theorem back_in (F : Fence) (n : Nat) (h55 : F.fn 75) (hro : F.round = none) (a : Option Addr) (len cap : Nat) (w : World) :
    CallsIn F n Tryz.prog 75 #[.slice a len cap] w fun e w' => e = .returned (.func (.func 122) #[] #[.pointer (some ⟨w.heap.size, 0, none⟩)]) ∧ w' = w.alloc (.cells #[.slice a len cap] 23) := by
  refine callsIn_of_wp Tryz.func75 rfl h55 ?_ hro
  simp only [Tryz.ntmps75, List.size_toArray, List.length_cons, List.length_nil, Nat.reduceAdd, Nat.reduceSub, Array.replicate_succ, Array.replicate_zero, List.push_toArray, List.append_toArray, List.nil_append, List.cons_append]
  gi_wp2
  go_ret
  exact ⟨rfl, rfl⟩
theorem back_stops (F : Fence) (n : Nat) (h99 : F.fn 122) (hro : F.round = none) (hn : 1 ≤ n) (Bs n₀ b off len cap : Nat) (cf : Nat → List Value) (hreach : len ≤ 100000) (hb : b < n₀) (hcl : ∀ p, p < len → (cf p).length = 19) (w : World) (hn₀ : n₀ ≤ w.heap.size)
    (hBs : Boxed w Bs 23 (.slice (some ⟨b, off, none⟩) len cap)) (hc : ∀ p, p < len → w.rangeAt b (off + p * 19) (cf p)) :
    SeqStopsK F n Tryz.prog 122 #[.pointer (some ⟨Bs, 0, none⟩)] (fun x : Fin len => #[Value.int .i64 (x.1 : Int), .agg (cf x.1).toArray]) (KpB n₀ Bs 23) (fun ys => ys.map (·.1) = dnl len) (fun _ => True) len w := fun l J Jx W hW _ _ hY h0 =>
  back1_in F n h99 hro hn l Bs n₀ b off len cap cf hreach hb hcl J Jx hY W ((hW.block Bs hBs.lt).trans hBs) (fun p hp j v hj => ((hW.mono hn₀).cell (p := ⟨b, off + p * 19 + j, none⟩) hb).trans (hc p hp j v hj)) h0
end Go.Proofs.YtloamahbghjjgaaGreatDoor

namespace Go.Proofs.YtloamahbghjjgaaGreatDoor
open Go.RowKit

def topI : List Int → Int
  | [] => 0
  | x :: l => l.foldl max x
theorem topI_snoc (l : List Int) (h : l ≠ []) (x : Int) : topI (l ++ [x]) = max (topI l) x := by
  cases l with
  | nil => exact absurd rfl h
  | cons y l => simp [topI]
set_option maxRecDepth 100000 in
set_option maxHeartbeats 2000000 in
theorem smax_val (a : Option Addr) (cap : Nat) (xs : List Int) (w : World) (ha : IntsIn w a xs) (hx : xs.length ≤ 100000) (h0 : 0 < xs.length) :
    Calls Tryz.prog 76 #[.slice a xs.length cap] w fun e w' => e = .returned (.int .i64 (topI xs)) ∧ Below w.heap.size w w' := by
  have HA := hide ha
  clear ha
  obtain ⟨n, hn⟩ : ∃ n, xs.length = n := ⟨_, rfl⟩
  have HN := hide hn
  rw [hn] at hx h0 ⊢
  have hni : ¬ (n : Int) < 1 := by omega
  have hni2 : (1 : Int) ≤ (n : Int) := by omega
  obtain ⟨g1, o1, ea, x1⟩ := ints_at (unhide HA) 0 (by rw [hn]; exact h0)
  have HX0 : Hid (topI (xs.take 1) = xs.getD 0 0) := hide (by
    rw [List.take_succ_eq_append_getElem (by rw [hn]; exact h0), List.getD_eq_getElem?_getD, List.getElem?_eq_getElem (by rw [hn]; exact h0)]
    rfl)
  clear hn
  subst ea
  rw [Nat.add_zero] at x1
  generalize xs.getD 0 0 = p0 at x1 HX0
  go_enter Tryz.func76, Tryz.ntmps76
  go_wp2_with fail
  go_loopw [3, 4] (fun m v wr => ∃ k : Nat, v = .int .i64 (k : Int) ∧ 1 ≤ k ∧ k ≤ n ∧ m = .int .i64 (topI (xs.take k)) ∧ Hid (Below w.heap.size w wr)) (fun _ v _ => n - (intOf v).toNat)
  case atStart => exact ⟨1, rfl, by omega, by omega, by rw [unhide HX0], hide (Below.refl _ _)⟩
  case round =>
    obtain ⟨k, rfl, h1k, hk, rfl, HBW⟩ := hrel
    by_cases hlt : k < n
    · have hlti : (k : Int) < (n : Int) := by omega
      obtain ⟨g2, o2, e2, x2⟩ := ints_at (ints_below (unhide HA) (unhide HBW)) k (by rw [unhide HN]; exact hlt)
      cases e2
      have HT : Hid (topI (xs.take (k + 1)) = max (topI (xs.take k)) (xs.getD k 0)) := hide (by
        rw [List.take_succ_eq_append_getElem (by rw [unhide HN]; exact hlt), List.getD_eq_getElem?_getD, List.getElem?_eq_getElem (by rw [unhide HN]; exact hlt)]
        refine topI_snoc _ (fun e => ?_) _
        have := congrArg List.length e
        rw [List.length_take, unhide HN] at this
        simp at this; omega)
      generalize xs.getD k 0 = q at x2 HT
      generalize topI (xs.take k) = p at HT ⊢
      have HBD := HBW
      go_wp2_with fail
      go_roundw
      case rel => exact ⟨k + 1, by go_num, by omega, by omega, by rw [unhide HT], HBD⟩
      case measure => simp [intOf]; omega
    · have hlti : ¬ (k : Int) < (n : Int) := by omega
      obtain rfl : k = n := by omega
      rw [List.take_of_length_le (by rw [unhide HN]; omega)]
      go_wp2
      go_ret
      exact ⟨rfl, unhide HBW⟩
end Go.Proofs.YtloamahbghjjgaaGreatDoor

namespace Go.Proofs.YtloamahbghjjgaaGreatDoor
open Go.RowKit Go.Shelf
attribute [local go_sem] Oper.semAt_some

def innC (nds : List Nd) (p : Nat) : Nat := ((nds[p]?).map fun n => if n.kind = 2 ∨ n.kind = 5 then 1 else 0).getD 0
theorem runN_dnl (t : List (List Int)) (c : Nat → Nat) : ∀ (n : Nat) (arr : List Nat), runN t c n arr = (dnl n).foldl (stepN t c) arr
  | 0, _ => rfl
  | n + 1, _ => runN_dnl t c n _
def ArrRow (W : World) (g : Nat) (arr : List Nat) : Prop := W.heap[g]? = some (.cells (arr.map fun (x : Nat) => Value.int .i64 (x : Int)).toArray 3 (0, 0))
theorem arrRow_lt {W : World} {g : Nat} {arr : List Nat} (h : ArrRow W g arr) : g < W.heap.size := (Array.getElem?_eq_some_iff.1 h).1
theorem arrRow_kept {W W' : World} {row : Option Nat} {g : Nat} {arr : List Nat} (h : ArrRow W g arr) (hg : W.grownBy W' row) (hne : some g ≠ row) : ArrRow W' g arr := (hg.block g (arrRow_lt h) hne).trans h
theorem arrRow_own {β : Type} (g : Nat) (f : β → List Nat) : Own (fun s W => ArrRow W g (f s)) := fun s X Y row hs hg hrow =>
  arrRow_kept hs hg (fun e' => by obtain ⟨o, ho, hc⟩ := hrow g e'.symm; rw [show X.heap[g]? = _ from hs] at ho; cases ho; cases hc)
theorem arrRow_alloc {W : World} {g : Nat} {arr : List Nat} (h : ArrRow W g arr) (o : Obj) : ArrRow (W.alloc o) g arr := arrRow_kept h (World.grownBy_alloc W o none) (by simp)
theorem arrRow_frozen {W : World} {g : Nat} {arr : List Nat} (h : ArrRow W g arr) (j : Nat) : W.frozen? ⟨g, j, none⟩ = false := by
  simp [World.frozen?, show W.heap[g]? = _ from h]
theorem arrRow_cell {W : World} {g : Nat} {arr : List Nat} (h : ArrRow W g arr) (j : Nat) (hj : j < arr.length) : W.cell? ⟨g, j, none⟩ = some (.int .i64 ((arr.getD j 0 : Nat) : Int)) := by
  rw [cell_of_row W g j _ _ (0, 0) h, Array.getElem?_eq_some_iff.2 ⟨by simpa using hj, rfl⟩]
  simp [List.getD_eq_getElem?_getD, List.getElem?_eq_getElem hj]
theorem arrRow_set {W : World} {g : Nat} {arr : List Nat} (h : ArrRow W g arr) (j v : Nat) (_hj : j < arr.length) : ArrRow (W.setCell ⟨g, j, none⟩ (.int .i64 (v : Int))) g (arr.set j v) := by
  obtain ⟨hlt, hk⟩ := Array.getElem?_eq_some_iff.1 h
  show (W.heap.modify g _)[g]? = _
  rw [Array.getElem?_eq_getElem (by rw [Array.size_modify]; exact hlt), Array.getElem_modify_self, hk]
  simp [List.map_set]
theorem arrRow_set' {W : World} {g : Nat} {arr : List Nat} (h : ArrRow W g arr) (j v : Nat) (u : Int) (hj : j < arr.length) (hu : u = (v : Int)) : ArrRow (W.setCell ⟨g, j, none⟩ (.int .i64 u)) g (arr.set j v) := by
  rw [hu]; exact arrRow_set h j v hj
theorem kpB_b {n₀ Bs : Nat} {t : TypeId} {w : World} (hn : n₀ ≤ w.heap.size) (W : World) (l : Nat) (o o' : Obj) (hl : w.heap.size ≤ l) (hW : W.heap[l]? = some o) (hc : o.isCells = false) (hk : o.isWalk = false) : KpB n₀ Bs t W (W.putObj l o') :=
  ⟨belowK_b hn W l o o' hl hW hc hk, fun v h => h.kept (grownBy_putObj' W l o') (fun e => by cases e; rw [show W.heap[Bs]? = _ from h] at hW; cases hW; cases hc)⟩
theorem steps_len (t : List (List Int)) (c : Nat → Nat) : ∀ (ps : List Nat) (arr : List Nat), (ps.foldl (stepN t c) arr).length = arr.length
  | [], _ => rfl
  | p :: ps, arr => by rw [List.foldl_cons, steps_len t c ps]; exact setK_len _ _ _
theorem arrRow_other {W : World} {B g j : Nat} {t : TypeId} {v u : Value} (h : Boxed W B t v) (hne : B ≠ g) : Boxed (W.setCell ⟨g, j, none⟩ u) B t v := by
  have h1 : (W.setCell ⟨g, j, none⟩ u).heap[B]? = W.heap[B]? := by
    show (W.heap.modify g _)[B]? = _
    rw [Array.getElem?_modify, if_neg (fun e => hne e.symm)]
  show (W.setCell ⟨g, j, none⟩ u).heap[B]? = _
  rw [h1]; exact h
theorem arrRow_made (W : World) (n : Nat) : ArrRow (W.alloc (.cells (madeCells #[.int .i64 0] n) 3)) W.heap.size (List.replicate n 0) := by
  show (W.alloc _).heap[W.heap.size]? = _
  rw [World.alloc_heap_new]
  congr 2
  unfold madeCells
  apply Array.ext
  · simp
  · intro i h1 h2
    simp [Nat.mod_one]
theorem setK_le : ∀ (ks : List Int) (arr : List Nat) (v B : Nat), (∀ x ∈ arr, x ≤ B) → v ≤ B → ∀ x ∈ setK arr ks v, x ≤ B
  | [], arr, v, B, h, _, x, hx => h x hx
  | k :: ks, arr, v, B, h, hv, x, hx => setK_le ks (arr.set k.toNat v) v B (fun y hy => by
      rcases List.mem_or_eq_of_mem_set hy with h1 | h1
      · exact h y h1
      · rw [h1]; exact hv) hv x hx
theorem setK_snoc (arr : List Nat) (ks : List Int) (k : Int) (v : Nat) : setK arr (ks ++ [k]) v = (setK arr ks v).set k.toNat v := by unfold setK; simp
theorem steps_le (t : List (List Int)) (c : Nat → Nat) (hc : ∀ p, c p ≤ 1) : ∀ (ps : List Nat) (arr : List Nat) (B : Nat), (∀ x ∈ arr, x ≤ B) → ∀ x ∈ ps.foldl (stepN t c) arr, x ≤ B + ps.length
  | [], _, _, h, x, hx => h x hx
  | p :: ps, arr, B, h, x, hx => by
    have h1 : ∀ y ∈ stepN t c arr p, y ≤ B + 1 := by
      refine setK_le _ _ _ _ (fun y hy => by have := h y hy; omega) ?_
      have h2 := hc p
      have h3 : arr.getD p 0 ≤ B := by
        rw [List.getD_eq_getElem?_getD]
        cases hq : arr[p]? with
        | none => simp
        | some y => exact h y (List.mem_of_getElem? hq)
      omega
    have := steps_le t c hc ps _ (B + 1) h1 x hx
    rw [List.length_cons]; omega
theorem innC_le (nds : List Nd) (p : Nat) : innC nds p ≤ 1 := by
  unfold innC
  cases nds[p]? with
  | none => simp
  | some n => simp only [Option.map_some, Option.getD_some]; split <;> omega
structure KidsFit (nds : List Nd) : Prop where
  pos : 0 < nds.length
  len : nds.length ≤ 1000
  kids : ∀ n ∈ nds, n.kids.length ≤ 1000 ∧ ∀ k ∈ n.kids, 0 ≤ k ∧ k < (nds.length : Int)
set_option maxRecDepth 100000 in
set_option maxHeartbeats 4000000 in
theorem nesting_val (a : Option Addr) (cap : Nat) (nds : List Nd) (w : World) (hn : NodesIn w a nds) (hf : KidsFit nds) :
    Calls Tryz.prog 42 #[.slice a nds.length cap] w fun e w' => e = .returned (.int .i64 (topI ((runN (nds.map (·.kids)) (innC nds) nds.length (List.replicate nds.length 0)).map fun x => ((x : Nat) : Int)))) ∧ Below w.heap.size w w' := by
  have H : ∀ p, p < nds.length → ∃ (nd : Nd) (ka : Option Addr) (kcap : Nat) (g off : Nat) (cs : List Value), a = some ⟨g, off, none⟩ ∧ nds[p]? = some nd ∧ cs = (nd.cells (.slice ka nd.kids.length kcap)).toList ∧ g < w.heap.size ∧ IntsIn w ka nd.kids ∧ w.rangeAt g (off + p * 19) cs := by
    intro p hp
    obtain ⟨g, off, ka, kcap, e, hg, _, hki, hcells⟩ := node_at hn p _ (List.getElem?_eq_getElem hp)
    exact ⟨_, ka, kcap, g, off, _, e, List.getElem?_eq_getElem hp, rfl, hg, hki, nd_range hcells⟩
  obtain ⟨_, _, _, b, off, _, rfl, _, _, hb, _, _⟩ := H 0 hf.pos
  obtain ⟨cf, hcf⟩ : ∃ cf : Nat → List Value, ∀ p, p < nds.length → ∃ (nd : Nd) (ka : Option Addr) (kcap : Nat), nds[p]? = some nd ∧ cf p = (nd.cells (.slice ka nd.kids.length kcap)).toList ∧ IntsIn w ka nd.kids ∧ w.rangeAt b (off + p * 19) (cf p) := by
    have H2 : ∀ p, ∃ cs : List Value, p < nds.length → ∃ (nd : Nd) (ka : Option Addr) (kcap : Nat), nds[p]? = some nd ∧ cs = (nd.cells (.slice ka nd.kids.length kcap)).toList ∧ IntsIn w ka nd.kids ∧ w.rangeAt b (off + p * 19) cs := by
      intro p
      by_cases hp : p < nds.length
      · obtain ⟨nd, ka, kcap, g, off', cs, e, h1, h2, _, h3, h4⟩ := H p hp
        cases e
        exact ⟨cs, fun _ => ⟨nd, ka, kcap, h1, h2, h3, h4⟩⟩
      · exact ⟨[], fun h => absurd h hp⟩
    exact ⟨fun p => Classical.choose (H2 p), fun p hp => Classical.choose_spec (H2 p) hp⟩
  clear H
  have HCF := hide hcf
  have HF := hide hf
  have hl0 := hf.pos
  have hl1 := hf.len
  clear hn hcf hf
  obtain ⟨n, hnl⟩ : ∃ n, nds.length = n := ⟨_, rfl⟩
  have HNL := hide hnl
  rw [hnl] at hl0 hl1 ⊢
  rw [hnl] at HCF
  clear hnl
  obtain ⟨res, hres⟩ : ∃ r, topI ((runN (nds.map (·.kids)) (innC nds) n (List.replicate n 0)).map fun x => ((x : Nat) : Int)) = r := ⟨_, rfl⟩
  rw [hres]
  have HRES := hide hres
  clear hres
  refine (callsIn_wide (n := 5)).1 ?_
  refine callsIn_of_wp_marks Tryz.func42 rfl trivial ?_ rfl
  simp only [Tryz.ntmps42, List.size_toArray, List.length_cons, List.length_nil, Nat.reduceAdd, Nat.reduceSub, Array.replicate_succ, Array.replicate_zero, List.push_toArray, List.append_toArray, List.nil_append, List.cons_append]
  obtain ⟨i0, hi, hz0, hz1, hz2⟩ := info_parts infoInt
  have hmk := run_make (P := Tryz.prog) w 53 3 i0 (.int .i64 0) Tryz.underlying53 hi hz0 .i64 .i64 (n : Int) (n : Int) (by omega) (Int.le_refl _) (by rw [hz2]; omega) (by omega)
  rw [hz1, Nat.mul_one, Int.toNat_natCast] at hmk
  gi_wp2_with (refine ⟨trivial, ?_⟩; gi_at_call 75; refine (back_in _ _ trivial rfl _ _ _ _).mono ?_; rintro e w' ⟨rfl, rfl⟩)
  have bA := arrRow_made w n
  have bB := Boxed.new (w.alloc (.cells (madeCells #[.int .i64 0] n) 3)) 53 (.slice (some ⟨w.heap.size, 0, none⟩) n n)
  have bT := Boxed.new ((w.alloc (.cells (madeCells #[.int .i64 0] n) 3)).alloc (.cells #[.slice (some ⟨w.heap.size, 0, none⟩) n n] 53)) 23 (.slice (some ⟨b, off, none⟩) n cap)
  have hsz : (((w.alloc (.cells (madeCells #[.int .i64 0] n) 3)).alloc (.cells #[.slice (some ⟨w.heap.size, 0, none⟩) n n] 53)).alloc (.cells #[.slice (some ⟨b, off, none⟩) n cap] 23)).heap.size = w.heap.size + 3 := by simp
  have hB0 : Below w.heap.size w (((w.alloc (.cells (madeCells #[.int .i64 0] n) 3)).alloc (.cells #[.slice (some ⟨w.heap.size, 0, none⟩) n n] 53)).alloc (.cells #[.slice (some ⟨b, off, none⟩) n cap] 23)) := (((Below.refl _ w).alloc (Nat.le_refl _) _).alloc (by simp) _).alloc (by simp; omega) _
  replace bA := arrRow_alloc (arrRow_alloc bA (.cells #[.slice (some ⟨w.heap.size, 0, none⟩) n n] 53)) (.cells #[.slice (some ⟨b, off, none⟩) n cap] 23)
  replace bB := bB.alloc (.cells #[.slice (some ⟨b, off, none⟩) n cap] 23)
  rw [World.size_alloc] at bB
  rw [World.size_alloc, World.size_alloc] at bT
  generalize hW0 : (((w.alloc (.cells (madeCells #[.int .i64 0] n) 3)).alloc (.cells #[.slice (some ⟨w.heap.size, 0, none⟩) n n] 53)).alloc (.cells #[.slice (some ⟨b, off, none⟩) n cap] 23)) = W0 at bA bB bT hsz hB0 ⊢
  clear hW0 hmk
  have hcl : ∀ p, p < n → (cf p).length = 19 := fun p hp => by
    obtain ⟨nd, ka, kcap, _, h2, _, _⟩ := unhide HCF p hp
    rw [h2]; rfl
  have hc0 : ∀ p, p < n → W0.rangeAt b (off + p * 19) (cf p) := fun p hp j v hj => by
    obtain ⟨nd, ka, kcap, _, _, _, h4⟩ := unhide HCF p hp
    exact (hB0.cell (p := ⟨b, off + p * 19 + j, none⟩) hb).trans (h4 j v hj)
  refine wpIn_rangeFunc_ownH rfl (by omega) (gf := 122) (lb := #[.pointer (some ⟨w.heap.size + 1 + 1, 0, none⟩)]) rfl trivial (enters_of Tryz.func122 (by kernel_rfl) rfl)
    (back_stops Fence.wide (5 - 1) trivial rfl (by omega) (w.heap.size + 1 + 1) w.heap.size b off n cap cf (by omega) hb hcl W0 (by omega) bT hc0) kpB_t (kpB_b (by omega)) (Below.refl _ _) (fun _ => rfl)
    (fun pre W => (ArrRow W w.heap.size ((pre.map (·.1)).foldl (stepN (nds.map (·.kids)) (innC nds)) (List.replicate n 0)) ∧ Boxed W (w.heap.size + 1) 53 (.slice (some ⟨w.heap.size, 0, none⟩) n n)) ∧ Below w.heap.size w W)
    (fun _ _ _ => False)
    (OwnFrom.and (OwnFrom.and (Own.from (arrRow_own _ _) _) (Own.from (boxed_own _ _ (fun _ => _)) _)) (ownFrom_below (Nat.le_refl _) (by omega)))
    (fun _ _ _ _ _ hs _ _ => hs)
    ⟨⟨bA, bB⟩, hB0⟩
    (fun x a' W => ∃ (Bx : Nat) (nd : Nd) (ka : Option Addr) (kcap : Nat), nds[x.1]? = some nd ∧ IntsIn w ka nd.kids ∧
      a' = { tmps := #[.slice (some ⟨b, off, none⟩) n cap, undef, .int .i64 0, .pointer (some ⟨w.heap.size + 1, 0, none⟩), .int .i64 (x.1 : Int), .pointer (some ⟨Bx, 0, none⟩), undef, undef, undef, .slice (some ⟨b, off, none⟩) n cap, .int .i64 (n : Int), .slice (some ⟨w.heap.size, 0, none⟩) n n, .slice (some ⟨b, off, none⟩) n cap, .func (.func 122) #[] #[.pointer (some ⟨w.heap.size + 1 + 1, 0, none⟩)], .int .i64 (x.1 : Int), .agg (cf x.1).toArray, undef, undef, undef, undef, undef, undef, undef, undef, undef, undef, undef, undef, undef, undef, undef, undef, undef, undef, undef, undef, undef, undef, undef, undef, undef, undef, undef, undef], defers := [] } ∧
      W.cell? ⟨Bx, 0, none⟩ = some (.int .i64 nd.kind) ∧ W.cell? ⟨Bx, 18, none⟩ = some (.slice ka nd.kids.length kcap))
    ?hAx ?assign ?body ?done ?stop
  case hAx =>
    rintro x a' s A B row ⟨Bx, nd, ka, kcap, h1, h2, h4, h5, h6⟩ hg hr
    exact ⟨Bx, nd, ka, kcap, h1, h2, h4, cell_kept h5 hg (fun r e => (hr r e).2), cell_kept h6 hg (fun r e => (hr r e).2)⟩
  case assign =>
    rintro l pre x W K ⟨⟨hA, hBo⟩, hB⟩ hK
    obtain ⟨nd, ka, kcap, h1, h2, h3, h4⟩ := unhide HCF x.1 x.2
    have st := nd_new W nd (.slice ka nd.kids.length kcap) rfl
    have C5 := cells_new W ndT (nd.cells (.slice ka nd.kids.length kcap))
    have c0 := cells_c C5 0 (.int .i64 nd.kind) rfl
    have c18 := cells_c C5 18 (.slice ka nd.kids.length kcap) rfl
    rw [← h2] at st
    have h5 : nd.cells (.slice ka nd.kids.length kcap) = (cf x.1).toArray := by rw [h2, Array.toArray_toList]
    rw [h5] at st C5 c0 c18
    have h2' := h2
    clear h5 h2 hcl hc0 C5
    have zN : (cf x.1).length = 19 := by rw [h2']; rfl
    clear h2'
    generalize hcs : cf x.1 = cs at st c0 c18 zN ⊢
    have HCS := hide hcs
    clear hcs
    gi_wp2
    obtain rfl := unhide HCS
    exact hK _ _ ((KeepsOthers.alloc _ _).from _) ⟨(Below.refl _ W).alloc hB.size _, fun v h => h.alloc _⟩ ⟨⟨arrRow_alloc hA _, hBo.alloc _⟩, hB.alloc hB.size _⟩ ⟨W.heap.size, nd, ka, kcap, h1, h3, rfl, c0, c18⟩
  case body =>
    rintro l pre x a' W hl ⟨r, hr⟩ ⟨⟨hA, hBo⟩, hB⟩ ⟨Bx, nd, ka, kcap, hnd, hki, rfl, hc0, hc18⟩ hlt
    have HB := hide hB
    have HND := hide hnd
    have HKI := hide hki
    obtain ⟨arr, harr⟩ : ∃ arr, (pre.map (·.1)).foldl (stepN (nds.map (·.kids)) (innC nds)) (List.replicate n 0) = arr := ⟨_, rfl⟩
    have HL : Hid (arr.length = n) := hide (by rw [← harr, steps_len]; simp)
    have HLE : Hid (∀ y ∈ arr, y ≤ pre.length) := hide (by
      rw [← harr]
      intro y hy
      have := steps_le _ _ (innC_le nds) _ _ 0 (by simp) y hy
      simpa using this)
    have HS : Hid (((pre ++ [x]).map (·.1)).foldl (stepN (nds.map (·.kids)) (innC nds)) (List.replicate n 0) = setK arr ((nds.map (·.kids)).getD x.1 []) (arr.getD x.1 0 + innC nds x.1)) := hide (by
      rw [List.map_append, List.foldl_append, harr]; rfl)
    have HTK : Hid ((nds.map (·.kids)).getD x.1 [] = nd.kids) := hide (by
      rw [List.getD_eq_getElem?_getD, List.getElem?_map, hnd]; rfl)
    rw [harr] at hA
    have hxn := x.2
    have ca := arrRow_cell hA x.1 (by rw [unhide HL]; exact x.2)
    obtain ⟨v0, hv0⟩ : ∃ v0, arr.getD x.1 0 = v0 := ⟨_, rfl⟩
    have hv1 : v0 ≤ 1000 := by
      have h1 := unhide HLE (arr.getD x.1 0) (by
        rw [List.getD_eq_getElem?_getD, List.getElem?_eq_getElem (by rw [unhide HL]; exact x.2)]
        exact List.getElem_mem _)
      rw [hv0] at h1; omega
    have HV := hide hv0
    rw [hv0] at ca
    have hmem := List.mem_of_getElem? hnd
    obtain ⟨hk1, hk2⟩ := (unhide HF).kids nd hmem
    rw [unhide HNL] at hk2
    have HK2 := hide hk2
    obtain ⟨kl, hkl⟩ : ∃ kl, nd.kids.length = kl := ⟨_, rfl⟩
    have HKL := hide hkl
    rw [hkl] at hk1 hc18
    have cB := hBo.cell
    clear hv0 harr hkl hk2 hnd hki hB hmem hcl
    obtain ⟨kd, hkd⟩ : ∃ kd, nd.kind = kd := ⟨_, rfl⟩
    have HKD := hide hkd
    rw [hkd] at hc0
    clear hkd
    by_cases k2 : kd = 2
    · subst k2
      have harr' : Hid (setK arr nd.kids (v0 + 1) = ((pre ++ [x]).map (·.1)).foldl (stepN (nds.map (·.kids)) (innC nds)) (List.replicate n 0)) := hide (by
        rw [unhide HS, unhide HTK]
        have hc : innC nds x.1 = 1 := by
          unfold innC
          rw [unhide HND]
          simp [unhide HKD]
        rw [hc, unhide HV])
      gi_wp2
      gi_loopw [33] (fun i wr => ∃ j : Nat, i = .int .i64 (j : Int) ∧ j ≤ kl ∧ ArrRow wr w.heap.size (setK arr (nd.kids.take j) (v0 + 1)) ∧ Boxed wr (w.heap.size + 1) 53 (.slice (some ⟨w.heap.size, 0, none⟩) n n) ∧ Hid (Below w.heap.size W wr ∧ KeepsFrom W0.heap.size W wr ∧ ∀ v, Boxed W (w.heap.size + 1 + 1) 23 v → Boxed wr (w.heap.size + 1 + 1) 23 v))
        (fun i _ => kl - (intOf i).toNat)
      case atStart => exact ⟨0, rfl, by omega, by simpa [setK] using hA, hBo, hide ⟨Below.refl _ _, KeepsFrom.refl _ _, fun v h => h⟩⟩
      case round =>
        obtain ⟨j, rfl, hj, hA2, hBo2, HW⟩ := hrel
        have cB2 := hBo2.cell
        have fB2 := hBo2.frozen
        by_cases hlt2 : j < kl
        · have hlti : (j : Int) < (kl : Int) := by omega
          obtain ⟨g2, o2, rfl, x2⟩ := ints_at (ints_below (unhide HKI) ((unhide HB).trans (unhide HW).1)) j (by rw [unhide HKL]; exact hlt2)
          have hkk := unhide HK2 (nd.kids.getD j 0) (by
            rw [List.getD_eq_getElem?_getD, List.getElem?_eq_getElem (by rw [unhide HKL]; exact hlt2)]
            exact List.getElem_mem _)
          obtain ⟨kk, hkk0⟩ : ∃ kk : Nat, nd.kids.getD j 0 = (kk : Int) := ⟨_, (Int.toNat_of_nonneg hkk.1).symm⟩
          have HT : Hid (nd.kids.take (j + 1) = nd.kids.take j ++ [(kk : Int)]) := hide (by
            rw [← hkk0, List.take_succ_eq_append_getElem (by rw [unhide HKL]; exact hlt2), List.getD_eq_getElem?_getD, List.getElem?_eq_getElem (by rw [unhide HKL]; exact hlt2)]; rfl)
          rw [hkk0] at hkk x2
          have hkn : kk < n := by omega
          have hkni : (kk : Int) < (n : Int) := by omega
          have cg := arrRow_cell hA2 kk (by rw [setK_len, unhide HL]; exact hkn)
          have fg := arrRow_frozen hA2 kk
          have HA3 := hide (arrRow_set' hA2 kk (v0 + 1) ((v0 : Int) + 1) (by rw [setK_len, unhide HL]; exact hkn) (by omega))
          generalize (setK arr (nd.kids.take j) (v0 + 1)).getD kk 0 = z at cg
          clear hkk0 hkk
          gi_wp2
          go_roundw
          case rel => exact ⟨j + 1, by go_num, by omega, by rw [unhide HT, setK_snoc, Int.toNat_natCast]; exact unhide HA3, arrRow_other hBo2 (by omega), hide ⟨(unhide HW).1.setCell (p := ⟨w.heap.size, kk, none⟩) (Nat.le_refl _) _, (unhide HW).2.1.trans ((KeepsOthers.setCell _ _ _).from _), fun v h => arrRow_other ((unhide HW).2.2 v h) (by omega)⟩⟩
          case measure => simp [intOf]; omega
        · have hlti : ¬ (j : Int) < (kl : Int) := by omega
          have hA3 : ArrRow wr w.heap.size (((pre ++ [x]).map (·.1)).foldl (stepN (nds.map (·.kids)) (innC nds)) (List.replicate n 0)) := by
            rw [List.take_of_length_le (by rw [unhide HKL]; omega), unhide harr'] at hA2
            exact hA2
          gi_wp2
          exact ⟨by rw [← hsz]; exact (unhide HW).2.1, ⟨(unhide HW).1, (unhide HW).2.2⟩, ⟨⟨hA3, hBo2⟩, (unhide HB).trans (unhide HW).1⟩⟩
    · by_cases k5 : kd = 5
      · subst k5
        have harr' : Hid (setK arr nd.kids (v0 + 1) = ((pre ++ [x]).map (·.1)).foldl (stepN (nds.map (·.kids)) (innC nds)) (List.replicate n 0)) := hide (by
          rw [unhide HS, unhide HTK]
          have hc : innC nds x.1 = 1 := by
            unfold innC
            rw [unhide HND]
            simp [unhide HKD]
          rw [hc, unhide HV])
        gi_wp2
        gi_loopw [33] (fun i wr => ∃ j : Nat, i = .int .i64 (j : Int) ∧ j ≤ kl ∧ ArrRow wr w.heap.size (setK arr (nd.kids.take j) (v0 + 1)) ∧ Boxed wr (w.heap.size + 1) 53 (.slice (some ⟨w.heap.size, 0, none⟩) n n) ∧ Hid (Below w.heap.size W wr ∧ KeepsFrom W0.heap.size W wr ∧ ∀ v, Boxed W (w.heap.size + 1 + 1) 23 v → Boxed wr (w.heap.size + 1 + 1) 23 v))
          (fun i _ => kl - (intOf i).toNat)
        case atStart => exact ⟨0, rfl, by omega, by simpa [setK] using hA, hBo, hide ⟨Below.refl _ _, KeepsFrom.refl _ _, fun v h => h⟩⟩
        case round =>
          obtain ⟨j, rfl, hj, hA2, hBo2, HW⟩ := hrel
          have cB2 := hBo2.cell
          have fB2 := hBo2.frozen
          by_cases hlt2 : j < kl
          · have hlti : (j : Int) < (kl : Int) := by omega
            obtain ⟨g2, o2, rfl, x2⟩ := ints_at (ints_below (unhide HKI) ((unhide HB).trans (unhide HW).1)) j (by rw [unhide HKL]; exact hlt2)
            have hkk := unhide HK2 (nd.kids.getD j 0) (by
              rw [List.getD_eq_getElem?_getD, List.getElem?_eq_getElem (by rw [unhide HKL]; exact hlt2)]
              exact List.getElem_mem _)
            obtain ⟨kk, hkk0⟩ : ∃ kk : Nat, nd.kids.getD j 0 = (kk : Int) := ⟨_, (Int.toNat_of_nonneg hkk.1).symm⟩
            have HT : Hid (nd.kids.take (j + 1) = nd.kids.take j ++ [(kk : Int)]) := hide (by
              rw [← hkk0, List.take_succ_eq_append_getElem (by rw [unhide HKL]; exact hlt2), List.getD_eq_getElem?_getD, List.getElem?_eq_getElem (by rw [unhide HKL]; exact hlt2)]; rfl)
            rw [hkk0] at hkk x2
            have hkn : kk < n := by omega
            have hkni : (kk : Int) < (n : Int) := by omega
            have cg := arrRow_cell hA2 kk (by rw [setK_len, unhide HL]; exact hkn)
            have fg := arrRow_frozen hA2 kk
            have HA3 := hide (arrRow_set' hA2 kk (v0 + 1) ((v0 : Int) + 1) (by rw [setK_len, unhide HL]; exact hkn) (by omega))
            generalize (setK arr (nd.kids.take j) (v0 + 1)).getD kk 0 = z at cg
            clear hkk0 hkk
            gi_wp2
            go_roundw
            case rel => exact ⟨j + 1, by go_num, by omega, by rw [unhide HT, setK_snoc, Int.toNat_natCast]; exact unhide HA3, arrRow_other hBo2 (by omega), hide ⟨(unhide HW).1.setCell (p := ⟨w.heap.size, kk, none⟩) (Nat.le_refl _) _, (unhide HW).2.1.trans ((KeepsOthers.setCell _ _ _).from _), fun v h => arrRow_other ((unhide HW).2.2 v h) (by omega)⟩⟩
            case measure => simp [intOf]; omega
          · have hlti : ¬ (j : Int) < (kl : Int) := by omega
            have hA3 : ArrRow wr w.heap.size (((pre ++ [x]).map (·.1)).foldl (stepN (nds.map (·.kids)) (innC nds)) (List.replicate n 0)) := by
              rw [List.take_of_length_le (by rw [unhide HKL]; omega), unhide harr'] at hA2
              exact hA2
            gi_wp2
            exact ⟨by rw [← hsz]; exact (unhide HW).2.1, ⟨(unhide HW).1, (unhide HW).2.2⟩, ⟨⟨hA3, hBo2⟩, (unhide HB).trans (unhide HW).1⟩⟩
      · have HK25 : Hid (kd ≠ 2 ∧ kd ≠ 5) := hide ⟨k2, k5⟩
        have q2 : (kd == 2) = false := by simpa using k2
        have q5 : (kd == 5) = false := by simpa using k5
        have harr' : Hid (setK arr nd.kids (v0) = ((pre ++ [x]).map (·.1)).foldl (stepN (nds.map (·.kids)) (innC nds)) (List.replicate n 0)) := hide (by
          rw [unhide HS, unhide HTK]
          have hc : innC nds x.1 = 0 := by
            unfold innC
            rw [unhide HND]
            simp [unhide HKD, (unhide HK25).1, (unhide HK25).2]
          rw [hc, unhide HV, Nat.add_zero])
        gi_wp2
        gi_loopw [33] (fun i wr => ∃ j : Nat, i = .int .i64 (j : Int) ∧ j ≤ kl ∧ ArrRow wr w.heap.size (setK arr (nd.kids.take j) (v0)) ∧ Boxed wr (w.heap.size + 1) 53 (.slice (some ⟨w.heap.size, 0, none⟩) n n) ∧ Hid (Below w.heap.size W wr ∧ KeepsFrom W0.heap.size W wr ∧ ∀ v, Boxed W (w.heap.size + 1 + 1) 23 v → Boxed wr (w.heap.size + 1 + 1) 23 v))
          (fun i _ => kl - (intOf i).toNat)
        case atStart => exact ⟨0, rfl, by omega, by simpa [setK] using hA, hBo, hide ⟨Below.refl _ _, KeepsFrom.refl _ _, fun v h => h⟩⟩
        case round =>
          obtain ⟨j, rfl, hj, hA2, hBo2, HW⟩ := hrel
          have cB2 := hBo2.cell
          have fB2 := hBo2.frozen
          by_cases hlt2 : j < kl
          · have hlti : (j : Int) < (kl : Int) := by omega
            obtain ⟨g2, o2, rfl, x2⟩ := ints_at (ints_below (unhide HKI) ((unhide HB).trans (unhide HW).1)) j (by rw [unhide HKL]; exact hlt2)
            have hkk := unhide HK2 (nd.kids.getD j 0) (by
              rw [List.getD_eq_getElem?_getD, List.getElem?_eq_getElem (by rw [unhide HKL]; exact hlt2)]
              exact List.getElem_mem _)
            obtain ⟨kk, hkk0⟩ : ∃ kk : Nat, nd.kids.getD j 0 = (kk : Int) := ⟨_, (Int.toNat_of_nonneg hkk.1).symm⟩
            have HT : Hid (nd.kids.take (j + 1) = nd.kids.take j ++ [(kk : Int)]) := hide (by
              rw [← hkk0, List.take_succ_eq_append_getElem (by rw [unhide HKL]; exact hlt2), List.getD_eq_getElem?_getD, List.getElem?_eq_getElem (by rw [unhide HKL]; exact hlt2)]; rfl)
            rw [hkk0] at hkk x2
            have hkn : kk < n := by omega
            have hkni : (kk : Int) < (n : Int) := by omega
            have cg := arrRow_cell hA2 kk (by rw [setK_len, unhide HL]; exact hkn)
            have fg := arrRow_frozen hA2 kk
            have HA3 := hide (arrRow_set' hA2 kk (v0) ((v0 : Int)) (by rw [setK_len, unhide HL]; exact hkn) (by omega))
            generalize (setK arr (nd.kids.take j) (v0)).getD kk 0 = z at cg
            clear hkk0 hkk
            gi_wp2
            go_roundw
            case rel => exact ⟨j + 1, by go_num, by omega, by rw [unhide HT, setK_snoc, Int.toNat_natCast]; exact unhide HA3, arrRow_other hBo2 (by omega), hide ⟨(unhide HW).1.setCell (p := ⟨w.heap.size, kk, none⟩) (Nat.le_refl _) _, (unhide HW).2.1.trans ((KeepsOthers.setCell _ _ _).from _), fun v h => arrRow_other ((unhide HW).2.2 v h) (by omega)⟩⟩
            case measure => simp [intOf]; omega
          · have hlti : ¬ (j : Int) < (kl : Int) := by omega
            have hA3 : ArrRow wr w.heap.size (((pre ++ [x]).map (·.1)).foldl (stepN (nds.map (·.kids)) (innC nds)) (List.replicate n 0)) := by
              rw [List.take_of_length_le (by rw [unhide HKL]; omega), unhide harr'] at hA2
              exact hA2
            gi_wp2
            exact ⟨by rw [← hsz]; exact (unhide HW).2.1, ⟨(unhide HW).1, (unhide HW).2.2⟩, ⟨⟨hA3, hBo2⟩, (unhide HB).trans (unhide HW).1⟩⟩
  case done =>
    rintro D ys W hD hS ⟨⟨hA, hBo⟩, hB⟩ hK
    rw [hS, ← runN_dnl] at hA
    have HLN : Hid ((runN (nds.map (·.kids)) (innC nds) n (List.replicate n 0)).length = n) := hide (by rw [runN_dnl, steps_len]; simp)
    obtain ⟨rr, hrr⟩ : ∃ rr, runN (nds.map (·.kids)) (innC nds) n (List.replicate n 0) = rr := ⟨_, rfl⟩
    rw [hrr] at hA HLN
    have HR2 : Hid (topI (rr.map fun x => ((x : Nat) : Int)) = res) := hide (by rw [← hrr]; exact unhide HRES)
    have HI : Hid (IntsIn W (some ⟨w.heap.size, 0, none⟩) (rr.map fun (x : Nat) => (x : Int))) := hide (Or.inr ⟨_, _, rfl, arrRow_lt hA, fun i k hi => by
      rw [List.getElem?_map] at hi
      cases hq : rr[i]? with
      | none => rw [hq] at hi; cases hi
      | some y =>
        rw [hq] at hi
        simp only [Option.map_some, Option.some.injEq] at hi
        rw [Nat.zero_add, cell_of_row W w.heap.size i _ _ (0, 0) hA, ← hi]
        simp [hq]⟩)
    have HM := hide (smax_val (some ⟨w.heap.size, 0, none⟩) n (rr.map fun (x : Nat) => (x : Int)) W (unhide HI) (by rw [List.length_map, unhide HLN]; omega) (by rw [List.length_map, unhide HLN]; omega))
    rw [List.length_map, unhide HLN, unhide HR2] at HM
    have cB := hBo.cell
    have HB := hide hB
    have HD := hide hK
    clear hrr hS hB hcl hc0
    gi_wp2_with (refine ⟨trivial, ?_⟩; gi_at_call 76; refine (callsIn_wide.2 (unhide HM)).mono ?_; rintro e w2 ⟨rfl, b2⟩)
    have hD2 : D < W.heap.size := (Array.getElem?_eq_some_iff.1 (unhide HD)).1
    have hK2 : w2.heap[D]? = some (.deferred (some [])) := (b2.block D hD2).trans (unhide HD)
    refine ⟨by simp, .inl ⟨_, _, rfl, run_takeDeferred hK2, ?_⟩⟩
    exact ⟨_, results_tmp rfl _ _ _, rfl, ((unhide HB).trans (b2.mono (unhide HB).size)).trans (belowK_b (w := w) (Nat.le_refl _) w2 D _ _ (by omega) hK2 rfl rfl)⟩
  case stop =>
    rintro D c pre W _ _ h _
    exact h.elim
end Go.Proofs.YtloamahbghjjgaaGreatDoor

namespace Go.Proofs.YtloamahbghjjgaaGreatDoor
open Go.RowKit

theorem stk_range : ∀ (t : List (List Int)) (p : Nat) (free f : List Int), (∀ k ∈ free, 0 ≤ k ∧ k < (p : Int)) → stkF t p free = some f → ∀ ks ∈ t, ∀ k ∈ ks, 0 ≤ k ∧ k < (p : Int) + (t.length : Int)
  | [], _, _, _, _, _, ks, hks => by cases hks
  | kids :: rest, p, free, f, hfr, h, ks, hks => by
    rw [stkF] at h
    split at h
    · cases h
    split at h
    · rename_i hd
      have hfr2 : ∀ k ∈ free.take (free.length - kids.length) ++ [(p : Int)], 0 ≤ k ∧ k < ((p + 1 : Nat) : Int) := by
        intro k hk
        rcases List.mem_append.1 hk with hk | hk
        · have := hfr k (List.mem_of_mem_take hk)
          omega
        · have : k = (p : Int) := by simpa using hk
          omega
      rcases List.mem_cons.1 hks with rfl | hks
      · intro k hk
        rw [← hd] at hk
        have := hfr k (List.mem_of_mem_drop hk)
        rw [List.length_cons]
        omega
      · intro k hk
        have := stk_range rest (p + 1) _ f hfr2 h ks hks k hk
        rw [List.length_cons]
        omega
    · cases h
theorem sound_fit {nds : List Nd} (hf : TreeFit nds) (h : tsoundB nds = true) : KidsFit nds := by
  unfold tsoundB at h
  simp only [Bool.and_eq_true, Bool.not_eq_true'] at h
  obtain ⟨⟨h1, _⟩, _, h4⟩ := h
  refine ⟨List.length_pos_iff.mpr (fun e => by rw [e] at h1; simp at h1), hf.len, fun n hn => ⟨hf.kids n hn, fun k hk => ?_⟩⟩
  unfold standsB at h4
  cases hq : stkF (nds.map (·.kids)) 0 [] with
  | none => rw [hq] at h4; cases h4
  | some f =>
    have := stk_range _ 0 [] f (fun k hk => by cases hk) hq n.kids (List.mem_map.2 ⟨n, hn, rfl⟩) k hk
    rw [List.length_map] at this
    omega
def nestT (nds : List Nd) : Int := topI ((runN (nds.map (·.kids)) (innC nds) nds.length (List.replicate nds.length 0)).map fun x => ((x : Nat) : Int))
def goodT (nds : List Nd) : Bool := tsoundB nds && decide (nestT nds ≤ 32)
def nestingT (nds : List Nd) : Int := if tsoundB nds then nestT nds else 0
set_option maxRecDepth 100000 in
set_option maxHeartbeats 4000000 in
theorem nestingT_val (a : Option Addr) (cap : Nat) (nds : List Nd) (w : World) (hn : NodesIn w a nds) (hf : TreeFit nds) :
    Calls Tryz.prog 36 #[.slice a nds.length cap] w fun e w' => e = .returned (.int .i64 (nestingT nds)) ∧ Below w.heap.size w w' := by
  have HN := hide hn
  have HF := hide hf
  have HS := hide (tsound_val a cap nds w hn hf)
  have HT := hide (fun w2 (h : NodesIn w2 a nds) (h2 : tsoundB nds = true) => nesting_val a cap nds w2 h (sound_fit hf h2))
  have HR : Hid (∀ b, tsoundB nds = b → nestingT nds = if b then nestT nds else 0) := hide (fun b hb => by unfold nestingT; rw [hb])
  obtain ⟨sb, hsb⟩ : ∃ sb, tsoundB nds = sb := ⟨_, rfl⟩
  have HSB := hide hsb
  rw [hsb] at HS
  obtain ⟨n, hnl⟩ : ∃ n, nds.length = n := ⟨_, rfl⟩
  have HNT : Hid (topI ((runN (nds.map (·.kids)) (innC nds) nds.length (List.replicate nds.length 0)).map fun x => ((x : Nat) : Int)) = nestT nds) := hide rfl
  have HT2 := hide (fun w2 h h2 => by
    have := unhide HT w2 h h2
    rw [unhide HNT, hnl] at this
    exact this)
  rw [hnl] at HS ⊢
  obtain ⟨res, hres⟩ : ∃ r, nestingT nds = r := ⟨_, rfl⟩
  have HRES : Hid (res = if sb then nestT nds else 0) := hide (by rw [← hres, unhide HR sb hsb])
  rw [hres]
  clear hn hf hsb hnl hres HT HR
  go_enter Tryz.func36, Tryz.ntmps36
  go_wp2_with fail
  refine (unhide HS).mono ?_
  rintro e w2 ⟨rfl, b2⟩
  have HB := hide b2
  have HN2 := hide (nodesIn_below (unhide HN) b2)
  clear b2
  cases sb with
  | false =>
    have HR0 : Hid (res = 0) := hide (by rw [unhide HRES]; rfl)
    go_wp2
    go_ret
    exact ⟨by rw [unhide HR0]; rfl, unhide HB⟩
  | true =>
    have HC := hide (unhide HT2 w2 (unhide HN2) (unhide HSB))
    have HR0 : Hid (res = nestT nds) := hide (by rw [unhide HRES]; rfl)
    go_wp2_with fail
    refine (unhide HC).mono ?_
    rintro e w3 ⟨rfl, b3⟩
    have HB3 := hide (below_nx (unhide HB) b3)
    clear b3
    go_wp2
    go_ret
    exact ⟨by rw [unhide HR0]; rfl, unhide HB3⟩
set_option maxRecDepth 100000 in
set_option maxHeartbeats 4000000 in
theorem goodT_val (a : Option Addr) (cap : Nat) (nds : List Nd) (w : World) (hn : NodesIn w a nds) (hf : TreeFit nds) :
    Calls Tryz.prog 16 #[.slice a nds.length cap] w fun e w' => e = .returned (.bool (goodT nds)) ∧ Below w.heap.size w w' := by
  have HN := hide hn
  have HS := hide (tsound_val a cap nds w hn hf)
  have HT := hide (fun w2 (h : NodesIn w2 a nds) (h2 : tsoundB nds = true) => nesting_val a cap nds w2 h (sound_fit hf h2))
  obtain ⟨sb, hsb⟩ : ∃ sb, tsoundB nds = sb := ⟨_, rfl⟩
  have HSB := hide hsb
  rw [hsb] at HS
  obtain ⟨n, hnl⟩ : ∃ n, nds.length = n := ⟨_, rfl⟩
  obtain ⟨nt, hnt⟩ : ∃ nt, nestT nds = nt := ⟨_, rfl⟩
  have HNT : Hid (topI ((runN (nds.map (·.kids)) (innC nds) nds.length (List.replicate nds.length 0)).map fun x => ((x : Nat) : Int)) = nt) := hide hnt
  have HT2 := hide (fun w2 h h2 => by
    have := unhide HT w2 h h2
    rw [unhide HNT, hnl] at this
    exact this)
  rw [hnl] at HS ⊢
  obtain ⟨res, hres⟩ : ∃ r, goodT nds = r := ⟨_, rfl⟩
  have HRES : Hid (res = (sb && decide (nt ≤ 32))) := hide (by rw [← hres]; unfold goodT; rw [hsb, hnt])
  rw [hres]
  clear hn hf hsb hnl hres hnt HT HNT
  go_enter Tryz.func16, Tryz.ntmps16
  go_wp2_with fail
  refine (unhide HS).mono ?_
  rintro e w2 ⟨rfl, b2⟩
  have HB := hide b2
  have HN2 := hide (nodesIn_below (unhide HN) b2)
  clear b2
  cases sb with
  | false =>
    have HR0 : Hid (res = false) := hide (by rw [unhide HRES]; rfl)
    go_wp2
    go_ret
    exact ⟨by rw [unhide HR0]; rfl, unhide HB⟩
  | true =>
    have HC := hide (unhide HT2 w2 (unhide HN2) (unhide HSB))
    have HR0 : Hid (decide (nt ≤ 32) = res) := hide (by rw [unhide HRES]; rfl)
    go_wp2_with fail
    refine (unhide HC).mono ?_
    rintro e w3 ⟨rfl, b3⟩
    have HB3 := hide (below_nx (unhide HB) b3)
    clear b3
    go_wp2
    go_ret
    exact ⟨by rw [← unhide HR0]; rfl, unhide HB3⟩
end Go.Proofs.YtloamahbghjjgaaGreatDoor
