/- Tokens compared whole; rows of tokens of which one place is written. -/
import Derived.Test.YtgoaefpkhjbkjaaGreatDoorLzZ
import Derived.Laws.StructEq
namespace Go.Proofs.YtgoaefpkhjbkjaaGreatDoor
open Go.RowKit

theorem full_eqIn (n : Nat) (bk sh : ByteArray) (c1 r1 : Int) (f1 g1 : Bool) (c2 r2 : Int) (f2 g2 wd : Bool) (w : World) : (Op.equalIn (n + 4) 39 (.agg #[.string bk, .string sh, .int .i64 c1, .int .i64 r1, .bool f1, .bool g1, .int .i64 c2, .int .i64 r2, .bool f2, .bool g2, .bool wd]) (.agg #[.string bk, .string sh, .int .i64 c1, .int .i64 r1, .bool f1, .bool g1, .int .i64 c2, .int .i64 r2, .bool f2, .bool g2, .bool wd])).run Tryz.prog w = .ok true w := by
  have hS : Tryz.prog.underlying 39 = some (.struct (Tryz.prog.fieldsOf 39)) := by kernel_rfl
  have hp : Tryz.prog.stoodInHeld 39 = false := by kernel_rfl
  have hc : ∀ c r f g c' r' f' g' w, (Op.equalIn (n + 3) 37 (.agg #[.int .i64 c, .int .i64 r, .bool f, .bool g]) (.agg #[.int .i64 c', .int .i64 r', .bool f', .bool g'])).run Tryz.prog w = .ok ((c == c' && r == r') && ((f == f') && (g == g'))) w := fun c r f g c' r' f' g' w => rf_eqIn n c r f g c' r' f' g' w
  have u2 := Tryz.underlying4
  have a2 := Tryz.isAgg4
  have z2 := Tryz.sizeOf4
  have u4 := Tryz.underlying9
  have a4 := Tryz.isAgg9
  have z4 := Tryz.sizeOf9
  have a3 := Tryz.isAgg37
  have z3 := Tryz.sizeOf37
  rw [show n + 4 = (n + 3) + 1 from rfl, run_equalIn_agg w (n + 3) 39 _ _ hS hp]
  simp only [Program.fieldsOf, Tryz.underlying39]
  clear hS
  go_simp
set_option maxRecDepth 100000 in
theorem tok_ne_self (kd nm fl pl : Int) (tx : ByteArray) (bk sh : ByteArray) (c1 r1 : Int) (f1 g1 : Bool) (c2 r2 : Int) (f2 g2 wd : Bool) (w : World) : (binOp .neq 41 (.agg #[.int .i64 kd, .string tx, .int .i64 nm, .int .i64 fl, .string bk, .string sh, .int .i64 c1, .int .i64 r1, .bool f1, .bool g1, .int .i64 c2, .int .i64 r2, .bool f2, .bool g2, .bool wd, .int .i64 pl]) (.agg #[.int .i64 kd, .string tx, .int .i64 nm, .int .i64 fl, .string bk, .string sh, .int .i64 c1, .int .i64 r1, .bool f1, .bool g1, .int .i64 c2, .int .i64 r2, .bool f2, .bool g2, .bool wd, .int .i64 pl])).run Tryz.prog w = .ok (.bool false) w := by
  have hS : Tryz.prog.underlying 41 = some (.struct (Tryz.prog.fieldsOf 41)) := by kernel_rfl
  have hp : Tryz.prog.stoodInHeld 41 = false := by kernel_rfl
  have hc : ∀ w, (Op.equalIn 9999 39 (.agg #[.string bk, .string sh, .int .i64 c1, .int .i64 r1, .bool f1, .bool g1, .int .i64 c2, .int .i64 r2, .bool f2, .bool g2, .bool wd]) (.agg #[.string bk, .string sh, .int .i64 c1, .int .i64 r1, .bool f1, .bool g1, .int .i64 c2, .int .i64 r2, .bool f2, .bool g2, .bool wd])).run Tryz.prog w = .ok true w := fun w => full_eqIn 9995 bk sh c1 r1 f1 g1 c2 r2 f2 g2 wd w
  have u0 := Tryz.underlying9
  have a0 := Tryz.isAgg9
  have z0 := Tryz.sizeOf9
  have u1 := Tryz.underlying3
  have a1 := Tryz.isAgg3
  have z1 := Tryz.sizeOf3
  have u2 := Tryz.underlying31
  have a2 := Tryz.isAgg31
  have z2 := Tryz.sizeOf31
  have u3 := Tryz.underlying32
  have a3 := Tryz.isAgg32
  have z3 := Tryz.sizeOf32
  have u4 := Tryz.underlying33
  have a4 := Tryz.isAgg33
  have z4 := Tryz.sizeOf33
  have af := Tryz.isAgg39
  have zf := Tryz.sizeOf39
  rw [run_neq_struct, show (10000 : Nat) = 9999 + 1 from rfl, run_equalIn_agg w 9999 41 _ _ hS hp]
  simp only [Program.fieldsOf, Tryz.underlying41]
  clear hS
  go_simp
theorem flat_set : ∀ (ts : List Tk) (k : Nat) (t : Tk) (o : Int), ts[k]? = some t → (flatT ts).set (k * 16 + 15) (.int .i64 o) = flatT (ts.set k (t.put o))
  | [], k, t, o, h => by simp at h
  | x :: ts, 0, t, o, h => by
    simp only [List.getElem?_cons_zero, Option.some.injEq] at h
    subst h
    unfold flatT
    rw [List.set_cons_zero, List.flatMap_cons, List.flatMap_cons]
    rfl
  | x :: ts, k + 1, t, o, h => by
    rw [List.getElem?_cons_succ] at h
    have ih := flat_set ts k t o h
    unfold flatT at ih ⊢
    have hx : x.cells.toList.length = 16 := rfl
    rw [List.set_cons_succ, List.flatMap_cons, List.flatMap_cons, ← ih]
    rw [List.set_append_right _ _ (by rw [hx]; omega), hx, show (k + 1) * 16 + 15 - 16 = k * 16 + 15 by omega]
/-- A place of a token of one's own row is written. -/
theorem tokrow_set {T : TypeId} {w : World} {B g cap N : Nat} {ts : List Tk} (h : TokRow T w B (.slice (some ⟨g, 0, none⟩) N cap) ts) (k : Nat) (t : Tk) (hk : ts[k]? = some t) (o : Int) :
    TokRow T (w.setCell ⟨g, k * 16 + 15, none⟩ (.int .i64 o)) B (.slice (some ⟨g, 0, none⟩) N cap) (ts.set k (t.put o)) ∧ w.frozen? ⟨g, k * 16 + 15, none⟩ = false := by
  obtain ⟨h1, h2⟩ := h
  rcases h2 with ⟨h2, _⟩ | ⟨g', cap', cur, hv, hb, hh, hc, hm, hs, ht⟩
  · cases h2
  · cases hv
    have hlen : k < ts.length := (List.getElem?_eq_some_iff.1 hk).1
    refine ⟨⟨?_, Or.inr ⟨g, cap, cur.setIfInBounds (k * 16 + 15) (.int .i64 o), ?_, hb, ?_, ?_, hm, ?_, ?_⟩⟩, ?_⟩
    · rw [flat_len, List.length_set]
    · rw [List.length_set]
    · exact heap_setCell_same w g (k * 16 + 15) cur T _ hh
    · rw [List.length_set]; exact hc
    · rw [Array.size_setIfInBounds]; exact hs
    · rw [List.length_set, ← flat_set ts k t o hk, ← ht, Array.toList_setIfInBounds, List.take_set]
    · simp [World.frozen?, hh]
theorem tokrow_setfar {T : TypeId} {w : World} {B g : Nat} {v : Value} {ts : List Tk} (h : TokRow T w B v ts) (hg : ∀ g' a c, v = .slice (some ⟨g', 0, none⟩) a c → g' ≠ g) (i : Nat) (x : Value) : TokRow T (w.setCell ⟨g, i, none⟩ x) B v ts := by
  obtain ⟨h1, h2⟩ := h
  refine ⟨h1, ?_⟩
  rcases h2 with h2 | ⟨g', cap', cur, hv, hb, hh, hr⟩
  · exact Or.inl h2
  · refine Or.inr ⟨g', cap', cur, hv, hb, ?_, hr⟩
    rw [heap_setCell_other _ _ _ _ (hg _ _ _ hv)]; exact hh
theorem tokrow_drew {T : TypeId} {w : World} {B : Nat} {v : Value} {ts : List Tk} (h : TokRow T w B v ts) : TokRow T w.drew B v ts := h
theorem tokrow_block {T : TypeId} {w : World} {B : Nat} {v : Value} {ts : List Tk} (h : TokRow T w B v ts) : ∀ g' a c, v = .slice (some ⟨g', 0, none⟩) a c → B ≤ g' ∧ g' < w.heap.size := by
  intro g' a c e
  rcases h.2 with ⟨h2, _⟩ | ⟨g, cap', cur, hv, hb, hh, hr⟩
  · rw [h2] at e; cases e
  · rw [hv] at e
    cases e
    refine ⟨hb, ?_⟩
    rcases Nat.lt_or_ge g' w.heap.size with h | h
    · exact h
    · rw [Array.getElem?_eq_none h] at hh; cases hh
theorem toks0_at {w : World} {g : Nat} {ts : List Tk} (h : ∀ (i : Nat) (t : Tk), ts[i]? = some t → ∀ (j : Nat) (u : Value), t.cells[j]? = some u → w.cell? ⟨g, i * 16 + j, none⟩ = some u) (i : Nat) (t : Tk) (hi : ts[i]? = some t) :
    w.cell? ⟨g, i * 16, none⟩ = some (.int .i64 t.kind) ∧ w.cell? ⟨g, i * 16 + 1, none⟩ = some (.string t.text) ∧ w.cell? ⟨g, i * 16 + 2, none⟩ = some (.int .i64 t.num) ∧ w.cell? ⟨g, i * 16 + 3, none⟩ = some (.int .i64 t.fail) ∧ w.cell? ⟨g, i * 16 + 4, none⟩ = some (.string t.ref.book) ∧ w.cell? ⟨g, i * 16 + 5, none⟩ = some (.string t.ref.sheet) ∧ w.cell? ⟨g, i * 16 + 6, none⟩ = some (.int .i64 t.ref.a.col) ∧ w.cell? ⟨g, i * 16 + 7, none⟩ = some (.int .i64 t.ref.a.row) ∧ w.cell? ⟨g, i * 16 + 8, none⟩ = some (.bool t.ref.a.fc) ∧ w.cell? ⟨g, i * 16 + 9, none⟩ = some (.bool t.ref.a.fr) ∧ w.cell? ⟨g, i * 16 + 10, none⟩ = some (.int .i64 t.ref.b.col) ∧ w.cell? ⟨g, i * 16 + 11, none⟩ = some (.int .i64 t.ref.b.row) ∧ w.cell? ⟨g, i * 16 + 12, none⟩ = some (.bool t.ref.b.fc) ∧ w.cell? ⟨g, i * 16 + 13, none⟩ = some (.bool t.ref.b.fr) ∧ w.cell? ⟨g, i * 16 + 14, none⟩ = some (.bool t.ref.wide) ∧ w.cell? ⟨g, i * 16 + 15, none⟩ = some (.int .i64 t.place) := by
  refine ⟨h i t hi 0 _ rfl, h i t hi 1 _ rfl, h i t hi 2 _ rfl, h i t hi 3 _ rfl, h i t hi 4 _ rfl, h i t hi 5 _ rfl, h i t hi 6 _ rfl, h i t hi 7 _ rfl, h i t hi 8 _ rfl, h i t hi 9 _ rfl, h i t hi 10 _ rfl, h i t hi 11 _ rfl, h i t hi 12 _ rfl, h i t hi 13 _ rfl, h i t hi 14 _ rfl, h i t hi 15 _ rfl⟩
end Go.Proofs.YtgoaefpkhjbkjaaGreatDoor
