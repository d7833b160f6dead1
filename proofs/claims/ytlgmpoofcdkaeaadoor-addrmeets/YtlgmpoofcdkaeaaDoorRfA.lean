/- Slices of digits in memory; the contracts of the reference's trim, below, Good. -/
import Derived.Test.YtlgmpoofcdkaeaaDoorRfM
import Derived.Test.YtlgmpoofcdkaeaaDoorFxA
import Derived.WalkSmall
import Derived.Deep.QuietTactic
import Derived.BigQuiet
namespace Go.Proofs.YtlgmpoofcdkaeaaDoor
open Go.RowKit

/-- The slice value v reads as these numbers in w. -/
def Arr (w : World) (v : Value) (zs : List Int) : Prop :=
  (zs = [] ∧ ∃ ad cap, v = .slice ad 0 cap) ∨
    ∃ b o cap, v = .slice (some ⟨b, o, none⟩) zs.length cap ∧ zs.length ≤ cap ∧ b < w.heap.size ∧ ∀ i, i < zs.length → w.cell? ⟨b, o + i, none⟩ = some (.int .i64 (zs.getD i 0))
theorem Arr.below {w w' : World} {v : Value} {zs : List Int} {B : Nat} (h : Arr w v zs) (hB : w.heap.size ≤ B) (hb : Below B w w') : Arr w' v zs := by
  rcases h with h | ⟨b, o, cap, e, hc, hlt, hcell⟩
  · exact Or.inl h
  · exact Or.inr ⟨b, o, cap, e, hc, Nat.lt_of_lt_of_le hlt hb.size, fun i hi => by rw [hb.cell (p := ⟨b, o + i, none⟩) (Nat.lt_of_lt_of_le hlt hB)]; exact hcell i hi⟩

theorem int_eqv {k : IntKind} {a b : Int} (h : a = b) : Value.int k a = Value.int k b := by rw [h]

/-- The slice lies in a block from B on, if anywhere. -/
def Fr (B : Nat) (v : Value) : Prop := ∀ b o n cap, v = .slice (some ⟨b, o, none⟩) n cap → B ≤ b
theorem fr_cut {B : Nat} {ad : Option Addr} {n n' cap : Nat} (h : Fr B (.slice ad n cap)) : Fr B (.slice ad n' cap) := by
  intro b o m c e
  injection e with e1 e2 e3
  subst e1
  exact h b o n cap rfl

/-- What trim leaves: cut behind the last that isn't nought. -/
def TrimPost (v : Value) (zs : List Int) (w : World) (e : Ending) (w' : World) : Prop :=
  w' = w ∧ ∃ v' n, e = .returned v' ∧ n ≤ zs.length ∧ Arr w v' (zs.take n) ∧ (∀ i, n ≤ i → zs.getD i 0 = 0) ∧ (n = 0 ∨ zs.getD (n - 1) 0 ≠ 0) ∧ ∀ B, Fr B v → Fr B v'

theorem arr_take {w : World} {b o cap n : Nat} {zs : List Int} (hn : n ≤ zs.length) (hcap : zs.length ≤ cap) (hlt : b < w.heap.size) (hcell : ∀ i, i < zs.length → w.cell? ⟨b, o + i, none⟩ = some (.int .i64 (zs.getD i 0))) :
    Arr w (.slice (some ⟨b, o, none⟩) n cap) (zs.take n) := by
  refine Or.inr ⟨b, o, cap, by rw [List.length_take, Nat.min_eq_left hn], by rw [List.length_take]; omega, hlt, fun i hi => ?_⟩
  rw [List.length_take] at hi
  rw [hcell i (by omega), List.getD_eq_getElem?_getD, List.getD_eq_getElem?_getD, List.getElem?_take, if_pos (by omega)]

theorem drop_pred (l : List Int) (k : Nat) (h0 : 0 < k) (h : k ≤ l.length) : l.drop (k - 1) = l.getD (k - 1) 0 :: l.drop k := by
  rw [List.drop_eq_getElem_cons (by omega), List.getD_eq_getElem?_getD, List.getElem?_eq_getElem (by omega), show k - 1 + 1 = k by omega]; rfl

/-- Below's world: as it was, but for draws. -/
def BelowPost (b : Bool) (w : World) (e : Ending) (w' : World) : Prop := e = .returned (.bool b) ∧ Below w.heap.size w w'

end Go.Proofs.YtlgmpoofcdkaeaaDoor
