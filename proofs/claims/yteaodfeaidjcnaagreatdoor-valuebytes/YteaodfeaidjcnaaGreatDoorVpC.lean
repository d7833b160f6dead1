/- The contract of the program's counted, of layer 3. -/
import Derived.Test.YteaodfeaidjcnaaGreatDoorVpB
namespace Go.Proofs.YteaodfeaidjcnaaGreatDoor
open Go.RowKit

set_option maxHeartbeats 2000000 in
theorem counted_val (v : Vl) (w : World) (hs : v.text.size ≤ 1000000) :
    Calls Tryz.prog 22 #[.agg v.cells] w fun e w' => e = .returned (.agg (vSound v).cells) ∧ Below w.heap.size w w' := by
  have HGR := hide (fun w => good3_val v w hs)
  unfold vSound
  cases hg : vGood v
  · have HG := hide hg
    clear hg
    unfold Vl.cells at HGR ⊢
    go_enter Tryz.func22, Tryz.ntmps22
    go_wp2_with fail
    refine (unhide HGR _).mono ?_
    rintro e w1 ⟨rfl, b1⟩
    rw [unhide HG]
    go_wp2_with fail
    refine (e_val 3 _).mono ?_
    rintro e w2 ⟨rfl, b2⟩
    have hf0 := five_below (five_new2 w (.cells #[.int .i64 v.kind, .int .i64 v.num, .string v.text, .bool v.tr, .int .i64 v.fail] 28) 28 (.int .i64 0) (.int .i64 0) (.string noText) (.bool false) (.int .i64 0)) b1 (by simp)
    have hb1 := (below_al2 w (.cells #[.int .i64 v.kind, .int .i64 v.num, .string v.text, .bool v.tr, .int .i64 v.fail] 28) (.cells #[.int .i64 0, .int .i64 0, .string noText, .bool false, .int .i64 0] 28)).trans (b1.mono (by simp; omega))
    have hf := five_below (hf0) b2 (five_lt hf0)
    obtain ⟨x0, c0⟩ := five_c hf 0 (by omega)
    obtain ⟨x1, c1⟩ := five_c hf 1 (by omega)
    obtain ⟨x2, c2⟩ := five_c hf 2 (by omega)
    obtain ⟨x3, c3⟩ := five_c hf 3 (by omega)
    obtain ⟨x4, c4⟩ := five_c hf 4 (by omega)
    have f0 := five_f hf 0
    have f1 := five_f hf 1
    have f2 := five_f hf 2
    have f3 := five_f hf 3
    have f4 := five_f hf 4
    have HF := hide hf
    have HB := hide (below_nx hb1 b2)
    clear hf b2 hf0 b1 hb1
    unfold vE Vl.cells
    go_wp2
    refine bodyPost_ret (results_cell_row rfl _ _ _ _ _ _ _ rfl (five_set (unhide HF) _ _ _ _ _).1 Tryz.underlying28 rfl infoVal) rfl ?_
    exact ⟨rfl, below_five (unhide HB) (by omega) _ _ _ _ _⟩
  · have HG := hide hg
    clear hg
    unfold Vl.cells at HGR ⊢
    go_enter Tryz.func22, Tryz.ntmps22
    go_wp2_with fail
    refine (unhide HGR _).mono ?_
    rintro e w1 ⟨rfl, b2⟩
    rw [unhide HG]
    have ho := five_below (five_old w 28 (.int .i64 v.kind) (.int .i64 v.num) (.string v.text) (.bool v.tr) (.int .i64 v.fail) (.cells #[.int .i64 0, .int .i64 0, .string noText, .bool false, .int .i64 0] 28)) b2 (by simp; omega)
    have o0 : w1.cell? ⟨w.heap.size, 0, none⟩ = some (.int .i64 v.kind) := by simp [World.cell?, ho.1]
    have o1 : w1.cell? ⟨w.heap.size, 1, none⟩ = some (.int .i64 v.num) := by simp [World.cell?, ho.1]
    have o2 : w1.cell? ⟨w.heap.size, 2, none⟩ = some (.string v.text) := by simp [World.cell?, ho.1]
    have o3 : w1.cell? ⟨w.heap.size, 3, none⟩ = some (.bool v.tr) := by simp [World.cell?, ho.1]
    have o4 : w1.cell? ⟨w.heap.size, 4, none⟩ = some (.int .i64 v.fail) := by simp [World.cell?, ho.1]
    clear ho
    have hf := five_below (five_new2 w (.cells #[.int .i64 v.kind, .int .i64 v.num, .string v.text, .bool v.tr, .int .i64 v.fail] 28) 28 (.int .i64 0) (.int .i64 0) (.string noText) (.bool false) (.int .i64 0)) b2 (by simp)
    obtain ⟨x0, c0⟩ := five_c hf 0 (by omega)
    obtain ⟨x1, c1⟩ := five_c hf 1 (by omega)
    obtain ⟨x2, c2⟩ := five_c hf 2 (by omega)
    obtain ⟨x3, c3⟩ := five_c hf 3 (by omega)
    obtain ⟨x4, c4⟩ := five_c hf 4 (by omega)
    have f0 := five_f hf 0
    have f1 := five_f hf 1
    have f2 := five_f hf 2
    have f3 := five_f hf 3
    have f4 := five_f hf 4
    have HF := hide hf
    have HB := hide ((below_al2 w (.cells #[.int .i64 v.kind, .int .i64 v.num, .string v.text, .bool v.tr, .int .i64 v.fail] 28) (.cells #[.int .i64 0, .int .i64 0, .string noText, .bool false, .int .i64 0] 28)).trans (b2.mono (by simp; omega)))
    clear hf b2
    go_wp2
    refine bodyPost_ret (results_cell_row rfl _ _ _ _ _ _ _ rfl (five_set (unhide HF) _ _ _ _ _).1 Tryz.underlying28 rfl infoVal) rfl ?_
    exact ⟨rfl, below_five (unhide HB) (by omega) _ _ _ _ _⟩
end Go.Proofs.YteaodfeaidjcnaaGreatDoor
