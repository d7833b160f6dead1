/- Rows of digits that are one's own. -/
import Derived.Test.YtnlhgehibbgmoaaRfB
import Derived.BigRegion
import Derived.Deep.CutRange
import Derived.Deep.CutBlock
namespace Go.Proofs.Ytnlhgehibbgmoaa
open Go.RowKit

/-- A slice, opened: its address is told where it has an element. -/
theorem arr_open {w : World} {v : Value} {zs : List Int} (h : Arr w v zs) : ∃ ad cap, v = .slice ad zs.length cap ∧
    (0 < zs.length → ∃ b o, ad = some ⟨b, o, none⟩ ∧ b < w.heap.size ∧ ∀ i, i < zs.length → w.cell? ⟨b, o + i, none⟩ = some (.int .i64 (zs.getD i 0))) := by
  rcases h with ⟨rfl, ad, cap, rfl⟩ | ⟨b, o, cap, rfl, _, hlt, hc⟩
  · exact ⟨ad, cap, rfl, fun h => by simp at h⟩
  · exact ⟨_, cap, rfl, fun _ => ⟨b, o, rfl, hlt, hc⟩⟩

theorem owns_cell {w : World} {B g n : Nat} {os : List Int} (h : w.ownsRow B 3 1 (.slice (some ⟨g, 0, none⟩) n n) n (os.map (Value.int .i64))) (j : Nat) (hj : j < n) : w.cell? ⟨g, j, none⟩ = some (.int .i64 (os.getD j 0)) := by
  have hl : os.length = n := by have := h.1; simpa using this
  rw [h.cellAt j (by omega), List.getElem?_map, List.getElem?_eq_getElem (by omega), List.getD_eq_getElem?_getD, List.getElem?_eq_getElem (by omega)]
  rfl
theorem owns_set {w : World} {B g n : Nat} {os : List Int} (h : w.ownsRow B 3 1 (.slice (some ⟨g, 0, none⟩) n n) n (os.map (Value.int .i64))) (j : Nat) (x : Int) :
    (w.setCell ⟨g, j, none⟩ (.int .i64 x)).ownsRow B 3 1 (.slice (some ⟨g, 0, none⟩) n n) n ((os.set j x).map (Value.int .i64)) := by
  have := h.stored j (.int .i64 x)
  rw [List.map_set]
  exact this.1

/-- What trim leaves of digits. -/
theorem trim_num {v0 : Value} {zs : List Int} {w w' : World} {e : Ending} (hd : Dc.Dig zs) (h : TrimPost v0 zs w e w') : w' = w ∧ ∃ v us, e = .returned v ∧ Arr w v us ∧ Dc.Dig us ∧ Dc.Cn us ∧ Dc.val us = Dc.val zs ∧ us.length ≤ zs.length ∧ ∀ B, Fr B v0 → Fr B v := by
  obtain ⟨rfl, v', n, rfl, hn, ha, hz, hl, hf⟩ := h
  exact ⟨rfl, v', zs.take n, rfl, ha, hd.take n, Dc.cn_cut zs n hn hl, Dc.val_cut zs n hz, by rw [List.length_take]; omega, hf⟩

theorem made_map (n : Nat) : (madeCells (Value.int .i64 0).cells (n * 1)).toList = (List.replicate n (0 : Int)).map (Value.int .i64) := by
  rw [List.map_replicate, Nat.mul_one]
  exact toList_madeCells_one (.int .i64 0) n


/-- What a size and a sign tell: the number, its error. -/
def sgnN (b : Bool) (p : Int) : Int := if 9000000000000000000 < p then 0 else if b then -p else p
def sgnE (p : Int) : Int := if 9000000000000000000 < p then 5 else 0
end Go.Proofs.Ytnlhgehibbgmoaa
