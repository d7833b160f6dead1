/- The contract of the reference's Order, of layer 3: where neither is an error, and the whole. -/
import Derived.Test.YteaodfeaidjcnaaGreatDoorVrY
namespace Go.Proofs.YteaodfeaidjcnaaGreatDoor
open Go.RowKit

theorem ord_ne (u x : Vl) (k1 : (u.kind == 4) = false) (k2 : (x.kind == 4) = false) (k3 : (u.kind == 0) = false) (k5 : (x.kind == 0) = false) (k6 : (u.kind == x.kind) = false) : ordV3 u x = (cmpV u.kind x.kind, 0) := by
  rw [beq_eq_false_iff_ne] at k1 k2 k3 k5 k6
  unfold ordV3; rw [if_neg k1, if_neg k2, if_neg k3, if_neg k5, if_neg k6]
theorem ord_same (u x : Vl) (k1 : (u.kind == 4) = false) (k2 : (x.kind == 4) = false) (k3 : (u.kind == 0) = false) (k5 : (x.kind == 0) = false) (k6 : (u.kind == x.kind) = true) : ordV3 u x = (sameV u x, 0) := by
  rw [beq_eq_false_iff_ne] at k1 k2 k3 k5
  rw [beq_iff_eq] at k6
  unfold ordV3; rw [if_neg k1, if_neg k2, if_neg k3, if_neg k5, if_pos k6]
theorem ord_b0 (u x : Vl) (k1 : (u.kind == 4) = false) (k2 : (x.kind == 4) = false) (k3 : (u.kind == 0) = false) (k5 : (x.kind == 0) = true) : ordV3 u x = (sameV u (bl u.kind), 0) := by
  rw [beq_eq_false_iff_ne] at k1 k2 k3
  rw [beq_iff_eq] at k5
  unfold ordV3; rw [if_neg k1, if_neg k2, if_neg k3, if_pos k5]
theorem ord_a0 (u x : Vl) (k1 : (u.kind == 4) = false) (k2 : (x.kind == 4) = false) (k3 : (u.kind == 0) = true) (k5 : (x.kind == 0) = false) : ordV3 u x = (sameV (bl x.kind) x, 0) := by
  rw [beq_eq_false_iff_ne] at k1 k2 k5
  rw [beq_iff_eq] at k3
  unfold ordV3; rw [if_neg k1, if_neg k2, if_pos k3, if_neg k5]
theorem ord_00 (u x : Vl) (k1 : (u.kind == 4) = false) (k2 : (x.kind == 4) = false) (k3 : (u.kind == 0) = true) (k5 : (x.kind == 0) = true) : ordV3 u x = (0, 0) := by
  rw [beq_eq_false_iff_ne] at k1 k2
  rw [beq_iff_eq] at k3 k5
  unfold ordV3; rw [if_neg k1, if_neg k2, if_pos k3, if_pos k5]
theorem same1 (U X : Vl) (m1 : (U.kind == 1) = true) : sameV U X = cmpV U.num X.num := by
  rw [beq_iff_eq] at m1
  unfold sameV; rw [if_pos m1]
theorem same2 (U X : Vl) (m1 : (U.kind == 1) = false) (m2 : (U.kind == 2) = true) : sameV U X = ltL (mapB lowC U.text).data.toList (mapB lowC X.text).data.toList := by
  rw [beq_iff_eq] at m2
  rw [beq_eq_false_iff_ne] at m1
  unfold sameV; rw [if_neg m1, if_pos m2]
theorem same3 (U X : Vl) (m1 : (U.kind == 1) = false) (m2 : (U.kind == 2) = false) (m3 : (U.kind == 3) = true) (p q : Bool) (t1 : U.tr = p) (t2 : X.tr = q) : sameV U X = if p = q then 0 else if q = true then -1 else 1 := by
  rw [beq_iff_eq] at m3
  rw [beq_eq_false_iff_ne] at m1 m2
  unfold sameV; rw [if_neg m1, if_neg m2, if_pos m3, t1, t2]
theorem same4 (U X : Vl) (m1 : (U.kind == 1) = false) (m2 : (U.kind == 2) = false) (m3 : (U.kind == 3) = false) : sameV U X = 0 := by
  rw [beq_eq_false_iff_ne] at m1 m2 m3
  unfold sameV; rw [if_neg m1, if_neg m2, if_neg m3]
theorem five_at {w : World} {B : Nat} {t : TypeId} {cs : Array Value} (h : FiveAt w B t cs) (i : Nat) (v : Value) (hv : cs[i]? = some v) : w.cell? ⟨B, i, none⟩ = some v := by
  rw [World.cell?, h.1]; simpa using hv

end Go.Proofs.YteaodfeaidjcnaaGreatDoor
