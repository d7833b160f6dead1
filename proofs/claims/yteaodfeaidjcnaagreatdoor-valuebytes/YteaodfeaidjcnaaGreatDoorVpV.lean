/- The contract of the law's values, of layer 3. -/
import Derived.Test.YteaodfeaidjcnaaGreatDoorVpS
import Derived.Test.YteaodfeaidjcnaaGreatDoorVpB
import Derived.BigRegion
namespace Go.Proofs.YteaodfeaidjcnaaGreatDoor
open Go.RowKit

theorem results_row2 {P : Program} {fn : Func} {p q : Tmp} {ty ty' : TypeId} (h : fn.results = #[.cell p ty, .cell q ty']) (tmps : Array Value) (w : World) (g g' : Nat) (t t' : TypeId) (cs cs' : Array Value) (fr fr' : Nat × Nat) (d d' : TypeDesc)
    (hp : tmps.getD p undef = .pointer (some ⟨g, 0, none⟩)) (hg : w.heap[g]? = some (.cells cs t fr))
    (hu : P.underlying ty = some d) (hd : (match d with | .struct _ | .array _ _ => true | _ => false) = true) (hi : (P.info? ty).map (·.size) = some cs.size)
    (hp' : tmps.getD q undef = .pointer (some ⟨g', 0, none⟩)) (hg' : w.heap[g']? = some (.cells cs' t' fr'))
    (hu' : P.underlying ty' = some d') (hd' : (match d' with | .struct _ | .array _ _ => true | _ => false) = true) (hi' : (P.info? ty').map (·.size) = some cs'.size) :
    (results fn tmps).run P w = .ok (.tuple #[.agg cs, .agg cs']) w := by
  have hp2 : tmps[p]?.getD undef = .pointer (some ⟨g, 0, none⟩) := by simpa using hp
  have hp3 : tmps[q]?.getD undef = .pointer (some ⟨g', 0, none⟩) := by simpa using hp'
  simp [results, h, hp2, hp3, asAddr, run_loadVar_row w g t ty cs fr d hg hu hd hi, run_loadVar_row w g' t' ty' cs' fr' d' hg' hu' hd' hi']

theorem heap3_1 (w : World) (A B C : Obj) : (((w.alloc A).alloc B).alloc C).drew.heap[w.heap.size + 1]? = some B := by
  show (((w.heap.push A).push B).push C)[w.heap.size + 1]? = some B
  rw [Array.getElem?_push, if_neg (by simp), Array.getElem?_push, if_pos (by simp)]
theorem heap3_2 (w : World) (A B C : Obj) : (((w.alloc A).alloc B).alloc C).drew.heap[w.heap.size + 1 + 1]? = some C := by
  show (((w.heap.push A).push B).push C)[w.heap.size + 1 + 1]? = some C
  rw [Array.getElem?_push, if_pos (by simp)]
theorem below_al3d (w : World) (o p q : Obj) : Below w.heap.size w (((w.alloc o).alloc p).alloc q).drew := ((below_al2 w o p).alloc (by simp; omega) _).drew
/-- What the law cuts a text to. -/
def cutT (s : ByteArray) : ByteArray := if 300 < s.size then s.extract 0 300 else s
theorem cutT_size (s : ByteArray) : (cutT s).size ≤ 300 := by
  unfold cutT
  split
  · rw [ByteArray.size_extract]; omega
  · omega
def cutV (v : Vl) : Vl := ⟨v.kind, v.num, cutT v.text, v.tr, v.fail⟩

set_option maxRecDepth 100000 in
set_option maxHeartbeats 2000000 in
theorem values_law (v : Vl) (w : World) (hs : v.text.size ≤ maxLen) :
    Calls Tryz.prog 5 #[.agg v.cells] w fun e w' => e = .returned (.tuple #[.agg (cutV v).cells, .agg (cutV v).cells]) ∧ Below w.heap.size w w' := by
  obtain ⟨k, n, s, b, f⟩ := v
  unfold cutV Vl.cells
  simp only [] at hs ⊢
  by_cases hl : 300 < s.size
  · have e : cutT s = s.extract 0 300 := by unfold cutT; rw [if_pos hl]
    rw [e]
    clear e
    go_enter Tryz.func5, Tryz.ntmps5
    go_wp2_with fail
    go_region
    all_goals (try go_wp2_with fail)
    refine bodyPost_ret (results_row2 rfl _ _ _ _ _ _ _ _ _ _ _ _ rfl (heap3_1 _ _ _ _) Tryz.underlying28 rfl infoVal rfl (heap3_2 _ _ _ _) Tryz.underlying29 rfl infoRef) rfl ?_
    exact ⟨rfl, below_al3d _ _ _ _⟩
  · have e : cutT s = s := by unfold cutT; rw [if_neg hl]
    rw [e]
    clear e
    go_enter Tryz.func5, Tryz.ntmps5
    go_wp2_with fail
    go_region
    all_goals (try go_wp2_with fail)
    refine bodyPost_ret (results_row2 rfl _ _ _ _ _ _ _ _ _ _ _ _ rfl (heap3_1 _ _ _ _) Tryz.underlying28 rfl infoVal rfl (heap3_2 _ _ _ _) Tryz.underlying29 rfl infoRef) rfl ?_
    exact ⟨rfl, below_al3d _ _ _ _⟩
end Go.Proofs.YteaodfeaidjcnaaGreatDoor
