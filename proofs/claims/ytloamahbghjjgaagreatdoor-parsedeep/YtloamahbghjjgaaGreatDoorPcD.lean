/- Rows of nodes that are read. -/
import Derived.Test.YtloamahbghjjgaaGreatDoorPcC
import Derived.Test.YtloamahbghjjgaaGreatDoorPaX
namespace Go.Proofs.YtloamahbghjjgaaGreatDoor
open Go.RowKit

/-- A node's kids, as its row says them. -/
def KidsIn (w : World) (p : Np) : Prop := ∃ ka kcap, p.2 = .slice ka p.1.kids.length kcap ∧ p.1.kids.length ≤ kcap ∧ IntsIn w ka p.1.kids
/-- Nodes where a slice lies. -/
def NodesIn (w : World) (a : Option Addr) (nds : List Nd) : Prop :=
  nds = [] ∨ ∃ g off ps, a = some ⟨g, off, none⟩ ∧ g < w.heap.size ∧ List.map (fun p : Np => p.1) ps = nds ∧ (∀ (i : Nat) (p : Np), ps[i]? = some p → ∀ (j : Nat) (u : Value), (p.1.cells p.2)[j]? = some u → w.cell? ⟨g, off + i * 19 + j, none⟩ = some u) ∧ ∀ p ∈ ps, KidsIn w p
theorem kidsIn_below {w w' : World} {p : Np} (h : KidsIn w p) (hb : Below w.heap.size w w') : KidsIn w' p := by
  obtain ⟨ka, kcap, h1, h2, h3⟩ := h
  exact ⟨ka, kcap, h1, h2, ints_below h3 hb⟩
theorem nodesIn_below {w w' : World} {a : Option Addr} {nds : List Nd} (h : NodesIn w a nds) (hb : Below w.heap.size w w') : NodesIn w' a nds := by
  rcases h with h | ⟨g, off, ps, rfl, hg, hp, hc, hk⟩
  · exact Or.inl h
  · exact Or.inr ⟨g, off, ps, rfl, Nat.lt_of_lt_of_le hg hb.size, hp, fun i p hi j u hu => by rw [hb.cell (p := ⟨g, off + i * 19 + j, none⟩) hg]; exact hc i p hi j u hu, fun p hp => kidsIn_below (hk p hp) hb⟩
theorem flatN_get : ∀ (ps : List Np) (i : Nat) (p : Np), ps[i]? = some p → ∀ (j : Nat) (u : Value), (p.1.cells p.2)[j]? = some u → (flatN ps)[i * 19 + j]? = some u
  | [], i, p, h, _, _, _ => by simp at h
  | x :: ps, 0, p, h, j, u, hu => by
    simp only [List.getElem?_cons_zero, Option.some.injEq] at h
    subst h
    unfold flatN
    rw [List.flatMap_cons, Nat.zero_mul, Nat.zero_add]
    obtain ⟨hlt, _⟩ := Array.getElem?_eq_some_iff.1 hu
    rw [List.getElem?_append_left (by simpa using hlt)]
    simpa using hu
  | x :: ps, i + 1, p, h, j, u, hu => by
    rw [List.getElem?_cons_succ] at h
    have ih := flatN_get ps i p h j u hu
    unfold flatN at ih ⊢
    have hx : (x.1.cells x.2).toList.length = 19 := rfl
    rw [List.flatMap_cons, List.getElem?_append_right (by rw [hx]; omega), hx, show (i + 1) * 19 + j - 19 = i * 19 + j by omega]
    exact ih
theorem nodes_in {T : TypeId} {w : World} {B : Nat} {v : Value} {nds : List Nd} (h : NodeRow T w B v nds) : ∃ a cap, v = .slice a nds.length cap ∧ nds.length ≤ cap ∧ NodesIn w a nds := by
  obtain ⟨ps, hp, hr, hk⟩ := h
  have hl : ps.length = nds.length := by rw [← hp]; simp
  have hk' : ∀ p ∈ ps, KidsIn w p := fun p hpp => ints_of_kids (hk p hpp)
  rw [← hl]
  rcases hr.2 with ⟨rfl, h0⟩ | ⟨g, cap, cur, rfl, hg, hh, hc, _, hs, ht⟩
  · exact ⟨none, 0, by rw [h0], by omega, Or.inl (List.eq_nil_of_length_eq_zero (by omega))⟩
  · refine ⟨_, cap, rfl, hc, Or.inr ⟨g, 0, ps, rfl, (Array.getElem?_eq_some_iff.1 hh).1, hp, fun i p hi j u hu => ?_, hk'⟩⟩
    have h1 := flatN_get ps i p hi j u hu
    rw [← ht] at h1
    rw [cell_of_row w g _ cur T (0, 0) hh, Nat.zero_add]
    rw [List.getElem?_take] at h1
    split at h1
    · simpa using h1
    · cases h1
/-- The cells of the node at a place. -/
theorem node_at {w : World} {a : Option Addr} {nds : List Nd} (h : NodesIn w a nds) (i : Nat) (n : Nd) (hi : nds[i]? = some n) : ∃ g off ka kcap, a = some ⟨g, off, none⟩ ∧ g < w.heap.size ∧ n.kids.length ≤ kcap ∧ IntsIn w ka n.kids ∧
    ∀ (j : Nat) (u : Value), (n.cells (.slice ka n.kids.length kcap))[j]? = some u → w.cell? ⟨g, off + i * 19 + j, none⟩ = some u := by
  rcases h with h | ⟨g, off, ps, rfl, hg, hp, hc, hk⟩
  · rw [h] at hi; simp at hi
  · rw [← hp, List.getElem?_map] at hi
    cases hq : ps[i]? with
    | none => rw [hq] at hi; cases hi
    | some p =>
      rw [hq] at hi
      simp only [Option.map_some, Option.some.injEq] at hi
      obtain ⟨ka, kcap, h1, h2, h3⟩ := hk p (List.mem_of_getElem? hq)
      rw [hi] at h1 h2 h3
      refine ⟨g, off, ka, kcap, rfl, hg, h2, h3, fun j u hu => hc i p hq j u ?_⟩
      rw [h1, hi]; exact hu
theorem nd_at {w : World} {g off i : Nat} {n : Nd} {kv : Value} (h : ∀ (j : Nat) (u : Value), (n.cells kv)[j]? = some u → w.cell? ⟨g, off + i * 19 + j, none⟩ = some u) :
    w.cell? ⟨g, off + i * 19, none⟩ = some (.int .i64 n.kind) ∧ w.cell? ⟨g, off + i * 19 + 1, none⟩ = some (.string n.op) ∧ w.cell? ⟨g, off + i * 19 + 2, none⟩ = some (.int .i64 n.val.kind) ∧ w.cell? ⟨g, off + i * 19 + 3, none⟩ = some (.int .i64 n.val.num) ∧ w.cell? ⟨g, off + i * 19 + 4, none⟩ = some (.string n.val.text) ∧ w.cell? ⟨g, off + i * 19 + 5, none⟩ = some (.bool n.val.tr) ∧ w.cell? ⟨g, off + i * 19 + 6, none⟩ = some (.int .i64 n.val.fail) ∧ w.cell? ⟨g, off + i * 19 + 7, none⟩ = some (.string n.ref.book) ∧ w.cell? ⟨g, off + i * 19 + 8, none⟩ = some (.string n.ref.sheet) ∧ w.cell? ⟨g, off + i * 19 + 9, none⟩ = some (.int .i64 n.ref.a.col) ∧ w.cell? ⟨g, off + i * 19 + 10, none⟩ = some (.int .i64 n.ref.a.row) ∧ w.cell? ⟨g, off + i * 19 + 11, none⟩ = some (.bool n.ref.a.fc) ∧ w.cell? ⟨g, off + i * 19 + 12, none⟩ = some (.bool n.ref.a.fr) ∧ w.cell? ⟨g, off + i * 19 + 13, none⟩ = some (.int .i64 n.ref.b.col) ∧ w.cell? ⟨g, off + i * 19 + 14, none⟩ = some (.int .i64 n.ref.b.row) ∧ w.cell? ⟨g, off + i * 19 + 15, none⟩ = some (.bool n.ref.b.fc) ∧ w.cell? ⟨g, off + i * 19 + 16, none⟩ = some (.bool n.ref.b.fr) ∧ w.cell? ⟨g, off + i * 19 + 17, none⟩ = some (.bool n.ref.wide) ∧ w.cell? ⟨g, off + i * 19 + 18, none⟩ = some kv :=
  ⟨h 0 _ rfl, h 1 _ rfl, h 2 _ rfl, h 3 _ rfl, h 4 _ rfl, h 5 _ rfl, h 6 _ rfl, h 7 _ rfl, h 8 _ rfl, h 9 _ rfl, h 10 _ rfl, h 11 _ rfl, h 12 _ rfl, h 13 _ rfl, h 14 _ rfl, h 15 _ rfl, h 16 _ rfl, h 17 _ rfl, h 18 _ rfl⟩
/-- A row of one's own, cut. -/
theorem owns_take {w : World} {B T n k : Nat} {v : Value} {xs : List Value} (h : w.ownsRow B T 1 v n xs) (hk : k ≤ n) : ∃ a cap, v = .slice a n cap ∧ k ≤ cap ∧ n ≤ cap ∧ w.ownsRow B T 1 (.slice a k cap) k (xs.take k) := by
  have hl : xs.length = n := by have := h.1; simpa using this
  rcases h.2 with ⟨rfl, h0⟩ | ⟨g, cap, cur, rfl, hg, hh, hc, hm, hs, ht⟩
  · have : k = 0 := by omega
    subst this
    exact ⟨none, 0, by rw [h0], by omega, by omega, by simp, Or.inl ⟨rfl, rfl⟩⟩
  · refine ⟨_, cap, rfl, by omega, hc, by rw [List.length_take]; omega, Or.inr ⟨g, cap, cur, rfl, hg, hh, by omega, hm, hs, ?_⟩⟩
    rw [← ht, List.take_take]
    congr 1; omega
end Go.Proofs.YtloamahbghjjgaaGreatDoor
