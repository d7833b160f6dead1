/- slices.Backward over nodes: a contract of its rounds. -/
import Derived.Test.YtloamahbghjjgaaGreatDoorPcE
import Derived.RangeFuncNested
import Derived.RangeFuncBound
import Derived.RangeFuncCalls
import Derived.RangeFuncLeaves
import Derived.Shelf.Abstract
import Derived.Shelf.RegionOpen
import Derived.WalkKit
import Derived.OwnWalkIn
import Derived.TacticsInMore
import Derived.LoopNIn
import Derived.LoopIn
namespace Go.Proofs.YtloamahbghjjgaaGreatDoor
open Go.RowKit Go.Shelf
attribute [local go_sem] Oper.semAt_some

theorem wpListIn_load_mid {F : Fence} {n : Nat} {P : Program} {ops : Array Oper} {rest : List Oper} {op : Oper} {a : Act} {w : World} {Q : Exit → Act → World → Prop} (hgd : op.guard = none) (ty : TypeId) (x : Operand) (ho : op.op = .load ty x)
    (b o : Nat) (hx : a.eval x = .pointer (some ⟨b, o, none⟩)) (cs : List Value) (d : TypeDesc) (hc : w.rangeAt b o cs)
    (hu : P.underlying ty = some d) (hd : d.isRow = true) (hi : (P.info? ty).map (·.size) = some cs.length)
    (h : wpListIn F n P ops Q rest (a.put op.dst (.agg cs.toArray)) w) : wpListIn F n P ops Q (op :: rest) a w := by
  refine wpListIn_plain hgd fun K hK => ?_
  unfold Oper.wpIn
  refine ⟨?_, ?_⟩
  · simp [Oper.about, ho]
  · rw [Oper.semAt_plain F _ _ (by rw [ho]; intro c hc'; cases hc')]
    simp only [execOp, ho, hx, Instr.loadAt, Instr.sureAddr, Sem.run_bind, Sem.run_pure, Result.andThen_ok, run_loadVar_mid w b o ty cs d hc hu hd hi]
    exact hK _ _ h

/-- The places from the last one on. -/
def dnl : Nat → List Nat
  | 0 => []
  | n + 1 => n :: dnl n
theorem dnl_len : ∀ n, (dnl n).length = n
  | 0 => rfl
  | n + 1 => by rw [dnl, List.length_cons, dnl_len n]
/-- What a round keeps: what lay below, and the slice's box. -/
def KpB (n₀ Bs : Nat) (t : TypeId) (W W' : World) : Prop := Below n₀ W W' ∧ ∀ v, Boxed W Bs t v → Boxed W' Bs t v
theorem kpB_t {n₀ Bs : Nat} {t : TypeId} {A B C : World} (h1 : KpB n₀ Bs t A B) (h2 : KpB n₀ Bs t B C) : KpB n₀ Bs t A C := ⟨h1.1.trans h2.1, fun v h => h2.2 v (h1.2 v h)⟩
set_option maxRecDepth 100000 in
set_option maxHeartbeats 2000000 in
theorem back1_in (F : Fence) (n : Nat) (h99 : F.fn 122) (hro : F.round = none) (hn : 1 ≤ n) (l Bs n₀ b off len cap : Nat) (cf : Nat → List Value) (hreach : len ≤ 100000) (hb : b < n₀) (hcl : ∀ p, p < len → (cf p).length = 19)
    (J Jx : List (Fin len) → World → Prop)
    (hY : ∀ pre x W, J pre W → pre.length < len → YieldAt F (n - 1) Tryz.prog l #[.int .i64 (x.1 : Int), .agg (cf x.1).toArray] W fun e W' =>
      (e = .returned (.bool true) ∧ J (pre ++ [x]) W' ∧ KpB n₀ Bs 23 W W') ∨ (e = .returned (.bool false) ∧ Jx (pre ++ [x]) W'))
    (W : World) (hBs : Boxed W Bs 23 (.slice (some ⟨b, off, none⟩) len cap)) (hc : ∀ p, p < len → W.rangeAt b (off + p * 19) (cf p)) (h0 : J [] W) :
    CallsIn F n Tryz.prog 122 #[.func (.yield l) #[] #[], .pointer (some ⟨Bs, 0, none⟩)] W fun e W' => (∃ v, e = .returned v) ∧
      ((∃ ys : List (Fin len), ys.map (·.1) = dnl len ∧ J ys W') ∨ (∃ pre : List (Fin len), True ∧ Jx pre W')) := by
  refine callsIn_of_wp Tryz.func122 rfl h99 ?_ hro
  simp only [Tryz.ntmps122, List.size_toArray, List.length_cons, List.length_nil, Nat.reduceAdd, Nat.reduceSub, Array.replicate_succ, Array.replicate_zero, List.push_toArray, List.append_toArray, List.nil_append, List.cons_append]
  have hBc := hBs.cell
  gi_wp2
  gi_loopw [3] (fun i wr => ∃ (m : Nat) (pre : List (Fin len)), m ≤ len ∧ i = .int .i64 ((m : Int) - 1) ∧ pre.map (·.1) ++ dnl m = dnl len ∧ J pre wr ∧ KpB n₀ Bs 23 W wr)
    (fun i _ => (intOf i + 1).toNat)
  case atStart => exact ⟨len, [], Nat.le_refl _, rfl, by simp, h0, Below.refl _ _, fun v h => h⟩
  case round =>
    obtain ⟨m, pre, hm, rfl, hp, hJs, hnx⟩ := hrel
    have hpl : pre.length + m = len := by
      have := congrArg List.length hp
      rwa [List.length_append, List.length_map, dnl_len, dnl_len] at this
    cases m with
    | zero =>
      gi_wp2
      go_end0
      exact ⟨⟨_, rfl⟩, .inl ⟨pre, by simpa [dnl] using hp, hJs⟩⟩
    | succ p =>
      have hpl' : p < len := by omega
      obtain ⟨fn, tmps, assign, body, hy, hR⟩ := hY pre ⟨p, hpl'⟩ wr hJs (by omega)
      dsimp only at hy
      have hbx := (hnx.2 _ hBs).cell
      have hi1 : (((p + 1 : Nat) : Int) - 1) = (p : Int) := by omega
      rw [hi1]
      have hrg : wr.rangeAt b (off + p * 19) (cf p) := fun j v hj => (hnx.1.cell (p := ⟨b, off + p * 19 + j, none⟩) hb).trans (hc p hpl' j v hj)
      have hsz : (Tryz.prog.info? 55).map (·.size) = some (cf p).length := by rw [infoNs, hcl p hpl']
      gi_wp2_with (refine wpListIn_load_mid rfl 55 _ rfl b (off + p * 19) rfl (cf p) _ hrg Tryz.underlying55 rfl hsz ?_)
      refine hR.mono ?_
      rintro e W3 (⟨rfl, hJ3, hk3⟩ | ⟨rfl, hJx3⟩)
      · gi_wp2
        go_roundw
        case rel => exact ⟨p, pre ++ [⟨p, hpl'⟩], by omega, by simp, by rw [← hp]; simp [dnl], hJ3, kpB_t hnx hk3⟩
        case measure => simp [intOf]
      · gi_wp2
        refine bodyPost_ret (results_none rfl _ _ _) rfl ?_
        exact ⟨⟨_, rfl⟩, .inr ⟨_, trivial, hJx3⟩⟩
set_option maxHeartbeats 1000000 in
theorem back_in (F : Fence) (n : Nat) (h55 : F.fn 75) (hro : F.round = none) (a : Option Addr) (len cap : Nat) (w : World) :
    CallsIn F n Tryz.prog 75 #[.slice a len cap] w fun e w' => e = .returned (.func (.func 122) #[] #[.pointer (some ⟨w.heap.size, 0, none⟩)]) ∧ w' = w.alloc (.cells #[.slice a len cap] 23) := by
  refine callsIn_of_wp Tryz.func75 rfl h55 ?_ hro
  simp only [Tryz.ntmps75, List.size_toArray, List.length_cons, List.length_nil, Nat.reduceAdd, Nat.reduceSub, Array.replicate_succ, Array.replicate_zero, List.push_toArray, List.append_toArray, List.nil_append, List.cons_append]
  gi_wp2
  go_ret
  exact ⟨rfl, rfl⟩
theorem back_stops (F : Fence) (n : Nat) (h99 : F.fn 122) (hro : F.round = none) (hn : 1 ≤ n) (Bs n₀ b off len cap : Nat) (cf : Nat → List Value) (hreach : len ≤ 100000) (hb : b < n₀) (hcl : ∀ p, p < len → (cf p).length = 19) (w : World) (hn₀ : n₀ ≤ w.heap.size)
    (hBs : Boxed w Bs 23 (.slice (some ⟨b, off, none⟩) len cap)) (hc : ∀ p, p < len → w.rangeAt b (off + p * 19) (cf p)) :
    SeqStopsK F n Tryz.prog 122 #[.pointer (some ⟨Bs, 0, none⟩)] (fun x : Fin len => #[Value.int .i64 (x.1 : Int), .agg (cf x.1).toArray]) (KpB n₀ Bs 23) (fun ys => ys.map (·.1) = dnl len) (fun _ => True) len w := fun l J Jx W hW _ _ hY h0 =>
  back1_in F n h99 hro hn l Bs n₀ b off len cap cf hreach hb hcl J Jx hY W ((hW.block Bs hBs.lt).trans hBs) (fun p hp j v hj => ((hW.mono hn₀).cell (p := ⟨b, off + p * 19 + j, none⟩) hb).trans (hc p hp j v hj)) h0
end Go.Proofs.YtloamahbghjjgaaGreatDoor
