/- What is told of a node: whether it is a call, and of what. -/
import Derived.Test.YtloamahbghjjgaaGreatDoorPcE
import Derived.Test.YtloamahbghjjgaaGreatDoorPbO
import Derived.Deep.QuietTactic
import Derived.BigQuiet
namespace Go.Proofs.YtloamahbghjjgaaGreatDoor
open Go.RowKit
set_option maxRecDepth 100000 in
set_option maxHeartbeats 2000000 in
theorem callsOne_val (nd : Nd) (kv : Value) (hkv : kv.oneCell' = true) (w : World) :
    Calls Tryz.prog 78 #[.agg (nd.cells kv)] w fun e w' => e = .returned (.tuple #[.string nd.op, .bool (nd.kind == 5)]) ∧ Below w.heap.size w w' := by
  have st := nd_new w nd kv hkv
  have C5 := cells_new w ndT (nd.cells kv)
  have c0 := cells_c C5 0 (.int .i64 nd.kind) rfl
  have c1 := cells_c C5 1 (.string nd.op) rfl
  have zN : (nd.cells kv).size = 19 := rfl
  generalize nd.cells kv = cs at st C5 c0 c1 zN ⊢
  generalize nd.kind = kd at c0 ⊢
  generalize nd.op = op at c1 ⊢
  clear C5
  have HBA := hide (Below.refl w.heap.size w |>.alloc (Nat.le_refl _) (.cells cs ndT))
  go_enter Tryz.func78, Tryz.ntmps78
  go_upto_region 1 with fail
  go_quiet (fail)
  go_wp2
  refine bodyPost_ret (results_t2 rfl _ _ (.string op) rfl (.bool (kd == 5)) rfl) rfl ?_
  exact ⟨rfl, below_nx (unhide HBA) ⟨rfl, rfl, rfl, Nat.le_refl _, fun _ _ => rfl⟩⟩
end Go.Proofs.YtloamahbghjjgaaGreatDoor
