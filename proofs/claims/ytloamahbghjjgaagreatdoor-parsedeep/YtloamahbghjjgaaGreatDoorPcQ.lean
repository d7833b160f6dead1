/- What is told of a node: whether it is a reference, and of what. -/
import Derived.Test.YtloamahbghjjgaaGreatDoorPcP
import Derived.Test.YtloamahbghjjgaaGreatDoorPcM
import Derived.Test.YtloamahbghjjgaaGreatDoorPcB
import Derived.RegionTactic
import Derived.ChangeAlike
import Derived.BigRegion
namespace Go.Proofs.YtloamahbghjjgaaGreatDoor
open Go.RowKit
set_option maxRecDepth 100000 in
set_option maxHeartbeats 4000000 in
theorem refsOne_val (nd : Nd) (kv : Value) (hkv : kv.oneCell' = true) (w : World) :
    Calls Tryz.prog 69 #[.agg (nd.cells kv)] w fun e w' => e = .returned (.tuple #[.agg nd.ref.cells, .bool (nd.kind == 1)]) ∧ Below w.heap.size w w' := by
  have st := nd_new w nd kv hkv
  have C5 := hide (cells_new w ndT (nd.cells kv))
  have zN : (nd.cells kv).size = 19 := rfl
  obtain ⟨kd, op, vl, ⟨bk, sh, ⟨c1, r1, f1, g1⟩, ⟨c2, r2, f2, g2⟩, wd⟩, ks⟩ := nd
  obtain ⟨v0, v1, v2, v3, v4⟩ := vl
  unfold Nd.cells at st C5 zN ⊢
  unfold Fl.cells
  simp only [] at st C5 zN ⊢
  clear zN
  have HBA := hide (Below.refl w.heap.size w |>.alloc (Nat.le_refl _) (.cells #[.int .i64 kd, .string op, .int .i64 v0, .int .i64 v1, .string v2, .bool v3, .int .i64 v4, .string bk, .string sh, .int .i64 c1, .int .i64 r1, .bool f1, .bool g1, .int .i64 c2, .int .i64 r2, .bool f2, .bool g2, .bool wd, kv] ndT))
  go_enter Tryz.func69, Tryz.ntmps69
  go_upto_region 1 with fail
  clear st
  obtain ⟨p0, p1, p2, p3, p4, p5, p6, p7, p8, p9, p10, p11, p12, p13, p14, p15, p16, p17, p18⟩ := nd_cells (cells_al (unhide C5) (.cells #[.string ⟨#[]⟩, .string ⟨#[]⟩, .int .i64 0, .int .i64 0, .bool false, .bool false, .int .i64 0, .int .i64 0, .bool false, .bool false, .bool false] fuT))
  go_region
  go_wp2
  refine bodyPost_ret (results_c1t rfl _ _ _ _ _ _ rfl (cells_drew (cells_new2 _ _ _ _)) Tryz.underlying52 rfl (by kernel_rfl) (.bool (kd == 1)) rfl) rfl ?_
  exact ⟨rfl, (below_al2 _ _ _).drew⟩
end Go.Proofs.YtloamahbghjjgaaGreatDoor
