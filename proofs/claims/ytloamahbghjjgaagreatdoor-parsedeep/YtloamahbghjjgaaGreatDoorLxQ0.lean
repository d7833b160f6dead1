/- Rows of tokens that are read. -/
import Derived.Test.YtloamahbghjjgaaGreatDoorLxV
namespace Go.Proofs.YtloamahbghjjgaaGreatDoor
open Go.RowKit

/-- Tokens where a slice lies. -/
def ToksIn (w : World) (a : Option Addr) (ts : List Tk) : Prop :=
  ts = [] ∨ ∃ g off, a = some ⟨g, off, none⟩ ∧ g < w.heap.size ∧ ∀ (i : Nat) (t : Tk), ts[i]? = some t → ∀ (j : Nat) (u : Value), t.cells[j]? = some u → w.cell? ⟨g, off + i * 16 + j, none⟩ = some u
theorem flat_get : ∀ (ts : List Tk) (i : Nat) (t : Tk), ts[i]? = some t → ∀ (j : Nat) (u : Value), t.cells[j]? = some u → (flatT ts)[i * 16 + j]? = some u
  | [], i, t, h, _, _, _ => by simp at h
  | x :: ts, 0, t, h, j, u, hu => by
    simp only [List.getElem?_cons_zero, Option.some.injEq] at h
    subst h
    unfold flatT
    rw [List.flatMap_cons, Nat.zero_mul, Nat.zero_add]
    obtain ⟨hlt, _⟩ := Array.getElem?_eq_some_iff.1 hu
    rw [List.getElem?_append_left (by simpa using hlt)]
    simpa using hu
  | x :: ts, i + 1, t, h, j, u, hu => by
    rw [List.getElem?_cons_succ] at h
    have ih := flat_get ts i t h j u hu
    unfold flatT at ih ⊢
    have hx : x.cells.toList.length = 16 := rfl
    rw [List.flatMap_cons, List.getElem?_append_right (by rw [hx]; omega), hx, show (i + 1) * 16 + j - 16 = i * 16 + j by omega]
    exact ih
theorem toks_of_row {T : TypeId} {w : World} {B : Nat} {v : Value} {ts : List Tk} (h : TokRow T w B v ts) : ∃ a cap, v = .slice a ts.length cap ∧ ts.length ≤ cap ∧ ToksIn w a ts := by
  rcases h.2 with ⟨rfl, h0⟩ | ⟨g, cap, cur, rfl, hg, hh, hc, _, hs, ht⟩
  · refine ⟨none, 0, by rw [h0], by omega, Or.inl (List.eq_nil_of_length_eq_zero h0)⟩
  · refine ⟨_, cap, rfl, hc, Or.inr ⟨g, 0, rfl, ?_, ?_⟩⟩
    · rcases Nat.lt_or_ge g w.heap.size with h | h
      · exact h
      · rw [Array.getElem?_eq_none h] at hh; cases hh
    · intro i t hi j u hu
      have h1 := flat_get ts i t hi j u hu
      rw [← ht] at h1
      rw [cell_of_row w g _ cur T (0, 0) hh, Nat.zero_add]
      rw [List.getElem?_take] at h1
      split at h1
      · simpa using h1
      · cases h1
theorem toks_below {w w' : World} {a : Option Addr} {ts : List Tk} (h : ToksIn w a ts) (hb : Below w.heap.size w w') : ToksIn w' a ts := by
  rcases h with h | ⟨g, off, rfl, hg, hc⟩
  · exact Or.inl h
  · refine Or.inr ⟨g, off, rfl, Nat.lt_of_lt_of_le hg hb.size, fun i t hi j u hu => ?_⟩
    rw [hb.cell (p := ⟨g, off + i * 16 + j, none⟩) hg]
    exact hc i t hi j u hu
theorem toks_at {w : World} {g off : Nat} {ts : List Tk} (h : ∀ (i : Nat) (t : Tk), ts[i]? = some t → ∀ (j : Nat) (u : Value), t.cells[j]? = some u → w.cell? ⟨g, off + i * 16 + j, none⟩ = some u) (i : Nat) (t : Tk) (hi : ts[i]? = some t) :
    w.cell? ⟨g, off + i * 16, none⟩ = some (.int .i64 t.kind) ∧ w.cell? ⟨g, off + i * 16 + 1, none⟩ = some (.string t.text) ∧ w.cell? ⟨g, off + i * 16 + 2, none⟩ = some (.int .i64 t.num) ∧ w.cell? ⟨g, off + i * 16 + 3, none⟩ = some (.int .i64 t.fail) ∧ w.cell? ⟨g, off + i * 16 + 4, none⟩ = some (.string t.ref.book) ∧ w.cell? ⟨g, off + i * 16 + 5, none⟩ = some (.string t.ref.sheet) ∧ w.cell? ⟨g, off + i * 16 + 6, none⟩ = some (.int .i64 t.ref.a.col) ∧ w.cell? ⟨g, off + i * 16 + 7, none⟩ = some (.int .i64 t.ref.a.row) ∧ w.cell? ⟨g, off + i * 16 + 8, none⟩ = some (.bool t.ref.a.fc) ∧ w.cell? ⟨g, off + i * 16 + 9, none⟩ = some (.bool t.ref.a.fr) ∧ w.cell? ⟨g, off + i * 16 + 10, none⟩ = some (.int .i64 t.ref.b.col) ∧ w.cell? ⟨g, off + i * 16 + 11, none⟩ = some (.int .i64 t.ref.b.row) ∧ w.cell? ⟨g, off + i * 16 + 12, none⟩ = some (.bool t.ref.b.fc) ∧ w.cell? ⟨g, off + i * 16 + 13, none⟩ = some (.bool t.ref.b.fr) ∧ w.cell? ⟨g, off + i * 16 + 14, none⟩ = some (.bool t.ref.wide) ∧ w.cell? ⟨g, off + i * 16 + 15, none⟩ = some (.int .i64 t.place) := by
  refine ⟨h i t hi 0 _ rfl, h i t hi 1 _ rfl, h i t hi 2 _ rfl, h i t hi 3 _ rfl, h i t hi 4 _ rfl, h i t hi 5 _ rfl, h i t hi 6 _ rfl, h i t hi 7 _ rfl, h i t hi 8 _ rfl, h i t hi 9 _ rfl, h i t hi 10 _ rfl, h i t hi 11 _ rfl, h i t hi 12 _ rfl, h i t hi 13 _ rfl, h i t hi 14 _ rfl, h i t hi 15 _ rfl⟩
end Go.Proofs.YtloamahbghjjgaaGreatDoor
