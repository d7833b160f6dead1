/- The contract of the reference's Digits. -/
import Derived.Test.YteaodfeaidjcnaaDoorRfA
namespace Go.Proofs.YteaodfeaidjcnaaDoor
open Go.RowKit

theorem info3 : (Tryd.prog.info? 3).map (fun i => (i.zero, i.size, i.bytes)) = some (some (.int .i64 0), 1, 8) := by kernel_rfl

/-- An owned row reads as its numbers. -/
theorem arr_of_owns {w : World} {B : Nat} {v : Value} {n : Nat} {zs : List Int} (hn : n = zs.length) (h : w.ownsRow B 3 1 v n (zs.map (Value.int .i64))) : Arr w v zs := by
  obtain ⟨_, h⟩ := h
  subst hn
  rcases h with ⟨rfl, h0⟩ | ⟨g, cap, cur, rfl, hg, hh, hc, _, hs, ht⟩
  · have : zs = [] := List.eq_nil_of_length_eq_zero h0
    subst this
    exact Or.inl ⟨rfl, none, 0, rfl⟩
  · refine Or.inr ⟨g, 0, cap, rfl, hc, ?_, fun i hi => ?_⟩
    · rcases Nat.lt_or_ge g w.heap.size with h' | h'
      · exact h'
      · rw [Array.getElem?_eq_none h'] at hh; cases hh
    · have h2 : (cur.toList.take (zs.length * 1))[i]? = (zs.map (Value.int .i64))[i]? := by rw [ht]
      rw [List.getElem?_take, if_pos (by omega), List.getElem?_map, List.getElem?_eq_getElem hi] at h2
      rw [Nat.zero_add, List.getD_eq_getElem?_getD, List.getElem?_eq_getElem hi]
      simp only [World.cell?, hh]
      simpa using h2

theorem fr_of_owns {w : World} {B : Nat} {v : Value} {n : Nat} {xs : List Value} (h : w.ownsRow B 3 1 v n xs) : Fr B v := by
  intro b o m c e
  rcases h.2 with ⟨rfl, _⟩ | ⟨g, cap, cur, rfl, hg, _⟩
  · cases e
  · injection e with e1
    injection e1 with e1
    injection e1 with e1
    omega

/-- Of digits: what they are, and where they lie. -/
def NumPost (n : Int) (len : Nat) (w : World) (e : Ending) (w' : World) : Prop :=
  Below w.heap.size w w' ∧ ∃ v zs, e = .returned v ∧ Arr w' v zs ∧ Dc.Dig zs ∧ Dc.Cn zs ∧ Dc.val zs = n ∧ zs.length ≤ len ∧ Fr w.heap.size v

theorem val_snoc (zs : List Int) (k : Int) : Dc.val (zs ++ [k]) = Dc.val zs + 10 ^ zs.length * k := by
  rw [Dc.val_append]; simp [Dc.val]
theorem dig_snoc {zs : List Int} {k : Int} (h : Dc.Dig zs) (h0 : 0 ≤ k) (h9 : k ≤ 9) : Dc.Dig (zs ++ [k]) := by
  intro x hx
  rcases List.mem_append.1 hx with h1 | h1
  · exact h x h1
  · rw [List.mem_singleton.1 h1]; exact ⟨h0, h9⟩
theorem cn_snoc {zs : List Int} {k : Int} (h : k ≠ 0) : Dc.Cn (zs ++ [k]) := by
  intro x l' e
  have := List.append_inj_right' e rfl
  simp at this
  rw [← this]; exact h

/-- One digit more. -/
theorem digits_step (a x : Int) (zs : List Int) (hd : Dc.Dig zs) (hv : Dc.val zs + 10 ^ zs.length * (x.natAbs : Int) = (a.natAbs : Int)) (hx : x ≠ 0) (ha : a.natAbs < 10000000000000000000) :
    zs.length ≤ 18 ∧ Dc.Dig (zs ++ [((x.tmod 10).natAbs : Int)]) ∧ Dc.val (zs ++ [((x.tmod 10).natAbs : Int)]) + 10 ^ (zs ++ [((x.tmod 10).natAbs : Int)]).length * ((x.tdiv 10).natAbs : Int) = (a.natAbs : Int) ∧
      (x.tdiv 10 = 0 → Dc.Cn (zs ++ [((x.tmod 10).natAbs : Int)])) := by
  have hn := Dc.val_nonneg zs hd
  have hp := Dc.pow_pos zs.length
  have h1 : (x.tmod 10).natAbs = x.natAbs % 10 := Int.natAbs_tmod x 10
  have h2 : (x.tdiv 10).natAbs = x.natAbs / 10 := Int.natAbs_tdiv x 10
  refine ⟨?_, dig_snoc hd (by omega) (by omega), ?_, fun h => cn_snoc (by omega)⟩
  · rcases Nat.lt_or_ge 18 zs.length with h | h
    · have h3 : (10 : Int) ^ 19 ≤ 10 ^ zs.length := Dc.pow_le (by omega)
      have h4 : (10 : Int) ^ zs.length * 1 ≤ 10 ^ zs.length * (x.natAbs : Int) := Int.mul_le_mul_of_nonneg_left (by omega) (by omega)
      have e : (10 : Int) ^ 19 = 10000000000000000000 := by decide
      omega
    · exact h
  · rw [val_snoc, List.length_append, List.length_singleton, Int.pow_succ, h1, h2, Int.mul_assoc, Int.add_assoc, ← Int.mul_add]
    rw [← hv]
    congr 2
    omega

theorem one_cell (w : World) (x : Value) (t : TypeId) : ∀ (j : Nat) u, [x][j]? = some u → (w.alloc (.cells #[x] t)).cell? ((⟨w.heap.size, 0, none⟩ : Addr).add j) = some u := by
  intro j u hj
  match j, hj with
  | 0, hj => simp at hj; subst hj; simp [Addr.add]
theorem one_one (k : Int) : ∀ u ∈ [Value.int .i64 k], u.oneCell' = true := by
  intro u hu
  simp at hu
  subst hu
  rfl

/-- An append of one number to a row of one's own. -/
theorem own_step {B : Nat} {w wr w1 : World} {v v' : Value} {zs : List Int} {k : Int} {o : Obj} (hb : Below B w wr) (hB : B ≤ wr.heap.size) (hown : wr.ownsRow B 3 1 v zs.length (zs.map (Value.int .i64)))
    (hown' : w1.ownsRow B 3 1 v' (zs.length + 1) (zs.map (Value.int .i64) ++ [.int .i64 k])) (hgrow : (wr.alloc o).grownBy w1 v.ownBlock) :
    w1.ownsRow B 3 1 v' (zs ++ [k]).length ((zs ++ [k]).map (Value.int .i64)) ∧ Below B w w1 := by
  refine ⟨by simpa using hown', (hb.alloc hB o).grown hgrow (by simp; omega) ?_⟩
  intro j hj
  rcases hown.2 with ⟨rfl, _⟩ | ⟨g, cap, cur, rfl, hg, _⟩
  · cases hj
  · simp [Value.ownBlock] at hj; omega

end Go.Proofs.YteaodfeaidjcnaaDoor
