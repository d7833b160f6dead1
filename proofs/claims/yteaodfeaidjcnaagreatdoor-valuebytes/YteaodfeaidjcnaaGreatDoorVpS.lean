/- Rows of five cells that are stored and loaded whole. -/
import Derived.Deep.WholeRow
import Derived.Laws.Tables
import Derived.Laws.CopyOwn
import Derived.Test.YteaodfeaidjcnaaGreatDoorVrZ
namespace Go.Proofs.YteaodfeaidjcnaaGreatDoor
open Go.RowKit

theorem five_row {w : World} {B : Nat} {t : TypeId} {cs : Array Value} (h : FiveAt w B t cs) (cs' : Array Value) (h5 : cs'.size = 5) : FiveAt (w.setRow B cs') B t cs' := ⟨setRow_heap w B cs cs' t (0, 0) h.1, h5⟩
theorem five_row_side {w : World} {B : Nat} {t : TypeId} {cs : Array Value} (h : FiveAt w B t cs) (C : Nat) (hC : B ≠ C) (cs' : Array Value) : FiveAt (w.setRow C cs') B t cs := ⟨by rw [setRow_other _ _ _ _ hC]; exact h.1, h.2⟩
/-- Five cells, each of them one cell wide. -/
def IsRow (cs : Array Value) : Prop := cs.size = 5 ∧ cs.all (·.oneCell') = true
theorem vl_row (v : Vl) : IsRow v.cells := ⟨rfl, by simp [Vl.cells, Value.oneCell']⟩
theorem row_store {P : Program} {w : World} {B : Nat} {t : TypeId} {old cs : Array Value} (h : FiveAt w B t old) (hc : IsRow cs) : (storeCells ⟨B, 0, none⟩ cs.toList 0).run P w = .ok () (w.setRow B cs) := by
  have := run_storeCells_from (P := P) B t cs.toList 0 old w h.1 (by rw [h.2]; simp [hc.1]) (fun v hv => (Array.all_eq_true_iff_forall_mem.1 hc.2) v (by simpa using hv))
  simpa using this
theorem row_load {P : Program} {w : World} {B : Nat} {t : TypeId} {cs : Array Value} (h : FiveAt w B t cs) : (loadCellsFrom ⟨B, 0, none⟩ 0 5 #[]).run P w = .ok cs w := by
  have := run_loadCells_list (P := P) w ⟨B, 0, none⟩ cs.toList (fun j v hv => by
    have hadd : (⟨B, 0, none⟩ : Addr).add j = ⟨B, j, none⟩ := by unfold Addr.add; split <;> simp_all
    rw [hadd, cell_of_row _ _ j cs t (0, 0) h.1]
    simpa using hv)
  simpa [loadCells, h.2] using this
end Go.Proofs.YteaodfeaidjcnaaGreatDoor
