/- The contracts of the reference's N, T, Sound, of layer 3: values in cells. -/
import Derived.Test.YtloamahbghjjgaaGreatDoorVrA
namespace Go.Proofs.YtloamahbghjjgaaGreatDoor
open Go.RowKit

/-- A block of five cells. -/
def FiveAt (w : World) (B : Nat) (t : TypeId) (cs : Array Value) : Prop := w.heap[B]? = some (.cells cs t (0, 0)) ∧ cs.size = 5
theorem five_c {w : World} {B : Nat} {t : TypeId} {cs : Array Value} (h : FiveAt w B t cs) (i : Nat) (hi : i < 5) : ∃ x, w.cell? ⟨B, i, none⟩ = some x := by
  obtain ⟨h1, h2⟩ := h
  exact ⟨cs[i]'(by omega), by simp [World.cell?, h1, h2, hi]⟩
theorem five_f {w : World} {B : Nat} {t : TypeId} {cs : Array Value} (h : FiveAt w B t cs) (i : Nat) : w.frozen? ⟨B, i, none⟩ = false := by
  simp [World.frozen?, h.1]
theorem five_lt {w : World} {B : Nat} {t : TypeId} {cs : Array Value} (h : FiveAt w B t cs) : B < w.heap.size := by
  rcases Nat.lt_or_ge B w.heap.size with h1 | h1
  · exact h1
  · have := h.1; rw [Array.getElem?_eq_none h1] at this; cases this
theorem five_below {w w' : World} {B N : Nat} {t : TypeId} {cs : Array Value} (h : FiveAt w B t cs) (hb : Below N w w') (hB : B < N) : FiveAt w' B t cs := by
  exact ⟨by rw [hb.block B hB]; exact h.1, h.2⟩
theorem five_set {w : World} {B : Nat} {t : TypeId} {cs : Array Value} (h : FiveAt w B t cs) (a b c d e : Value) :
    FiveAt (((((w.setCell ⟨B, 0, none⟩ a).setCell ⟨B, 1, none⟩ b).setCell ⟨B, 2, none⟩ c).setCell ⟨B, 3, none⟩ d).setCell ⟨B, 4, none⟩ e) B t #[a, b, c, d, e] := by
  obtain ⟨h1, h2⟩ := h
  obtain ⟨l⟩ := cs
  obtain ⟨c0, c1, c2, c3, c4, rfl⟩ : ∃ c0 c1 c2 c3 c4, l = [c0, c1, c2, c3, c4] := by
    match l, h2 with
    | [x0, x1, x2, x3, x4], _ => exact ⟨x0, x1, x2, x3, x4, rfl⟩
  refine ⟨?_, rfl⟩
  rw [heap_setCell_same _ B 4 #[a, b, c, d, c4] t e (by
    rw [heap_setCell_same _ B 3 #[a, b, c, c3, c4] t d (by
      rw [heap_setCell_same _ B 2 #[a, b, c2, c3, c4] t c (by
        rw [heap_setCell_same _ B 1 #[a, c1, c2, c3, c4] t b (by
          rw [heap_setCell_same w B 0 #[c0, c1, c2, c3, c4] t a h1]; rfl)]; rfl)]; rfl)]; rfl)]
  rfl
theorem five_new (w : World) (t : TypeId) (a b c d e : Value) : FiveAt (w.alloc (.cells #[a, b, c, d, e] t)) w.heap.size t #[a, b, c, d, e] := ⟨heap_alloc_new _ _, rfl⟩
theorem five_new2 (w : World) (o : Obj) (t : TypeId) (a b c d e : Value) : FiveAt ((w.alloc o).alloc (.cells #[a, b, c, d, e] t)) (w.heap.size + 1) t #[a, b, c, d, e] := ⟨heap_alloc2_new _ _ _, rfl⟩
theorem five_old (w : World) (t : TypeId) (a b c d e : Value) (p : Obj) : FiveAt ((w.alloc (.cells #[a, b, c, d, e] t)).alloc p) w.heap.size t #[a, b, c, d, e] :=
  ⟨heap_alloc2_old _ _ _, rfl⟩
theorem below_five {N : Nat} {a w : World} (h : Below N a w) {B : Nat} (hB : N ≤ B) (x0 x1 x2 x3 x4 : Value) :
    Below N a (((((w.setCell ⟨B, 0, none⟩ x0).setCell ⟨B, 1, none⟩ x1).setCell ⟨B, 2, none⟩ x2).setCell ⟨B, 3, none⟩ x3).setCell ⟨B, 4, none⟩ x4) :=
  ((((h.setCell (p := ⟨B, 0, none⟩) hB _).setCell (p := ⟨B, 1, none⟩) hB _).setCell (p := ⟨B, 2, none⟩) hB _).setCell (p := ⟨B, 3, none⟩) hB _).setCell (p := ⟨B, 4, none⟩) hB _
theorem below_nx {w a b : World} (h : Below w.heap.size w a) (k : Below a.heap.size a b) : Below w.heap.size w b := h.trans (k.mono h.size)
theorem below_al (w : World) (o : Obj) : Below w.heap.size w (w.alloc o) := (Below.refl _ _).alloc (Nat.le_refl _) _
theorem below_al2 (w : World) (o p : Obj) : Below w.heap.size w ((w.alloc o).alloc p) := (below_al w o).alloc (by simp) _

set_option maxHeartbeats 2000000 in
theorem n_ref (n : Int) (w : World) :
    Calls Tryz.prog 105 #[.int .i64 n] w fun e w' => e = .returned (.agg (vN n).cells) ∧ Below w.heap.size w w' := by
  unfold vN
  cases hg : goodB n
  · have HG := hide hg
    clear hg
    go_enter Tryz.func105, Tryz.ntmps105
    go_wp2_with fail
    refine (good_ref n _).mono ?_
    rintro e w1 ⟨rfl, rfl⟩
    rw [unhide HG]
    go_wp2_with fail
    refine (e_ref 2 _).mono ?_
    rintro e w2 ⟨rfl, b2⟩
    have hf := five_below (five_new w 65 _ _ _ _ _) b2 (by simp)
    obtain ⟨x0, c0⟩ := five_c hf 0 (by omega)
    obtain ⟨x1, c1⟩ := five_c hf 1 (by omega)
    obtain ⟨x2, c2⟩ := five_c hf 2 (by omega)
    obtain ⟨x3, c3⟩ := five_c hf 3 (by omega)
    obtain ⟨x4, c4⟩ := five_c hf 4 (by omega)
    have f0 := five_f hf 0
    have f1 := five_f hf 1
    have f2 := five_f hf 2
    have f3 := five_f hf 3
    have f4 := five_f hf 4
    have HF := hide hf
    have HB := hide ((below_al w _).trans (b2.mono (by simp)))
    clear hf b2
    unfold vE Vl.cells
    go_wp2
    refine bodyPost_ret (results_cell_row rfl _ _ _ _ _ _ _ rfl (five_set (unhide HF) _ _ _ _ _).1 Tryz.underlying65 rfl infoRef) rfl ?_
    exact ⟨rfl, below_five (unhide HB) (Nat.le_refl _) _ _ _ _ _⟩
  · have HG := hide hg
    clear hg
    unfold Vl.cells
    go_enter Tryz.func105, Tryz.ntmps105
    go_wp2_with fail
    refine (good_ref n _).mono ?_
    rintro e w1 ⟨rfl, rfl⟩
    rw [unhide HG]
    go_wp2
    refine bodyPost_ret (results_cell_row rfl _ _ _ _ _ _ _ rfl (heap_alloc_new _ _) Tryz.underlying65 rfl infoRef) rfl ?_
    exact ⟨rfl, below_al _ _⟩
end Go.Proofs.YtloamahbghjjgaaGreatDoor

namespace Go.Proofs.YtloamahbghjjgaaGreatDoor
open Go.RowKit

set_option maxHeartbeats 2000000 in
theorem t_ref (s : ByteArray) (w : World) (hs : s.size ≤ 1000000) :
    Calls Tryz.prog 106 #[.string s] w fun e w' => e = .returned (.agg (vT s).cells) ∧ Below w.heap.size w w' := by
  unfold vT
  by_cases hl : 255 < s.size
  · rw [if_pos hl]
    have hi : 255 < (s.size : Int) := by omega
    clear hl
    go_enter Tryz.func106, Tryz.ntmps106
    go_wp2_with fail
    refine (e_ref 3 _).mono ?_
    rintro e w2 ⟨rfl, b2⟩
    have hf := five_below (five_new w 65 _ _ _ _ _) b2 (by simp)
    obtain ⟨x0, c0⟩ := five_c hf 0 (by omega)
    obtain ⟨x1, c1⟩ := five_c hf 1 (by omega)
    obtain ⟨x2, c2⟩ := five_c hf 2 (by omega)
    obtain ⟨x3, c3⟩ := five_c hf 3 (by omega)
    obtain ⟨x4, c4⟩ := five_c hf 4 (by omega)
    have f0 := five_f hf 0
    have f1 := five_f hf 1
    have f2 := five_f hf 2
    have f3 := five_f hf 3
    have f4 := five_f hf 4
    have HF := hide hf
    have HB := hide ((below_al w _).trans (b2.mono (by simp)))
    clear hf b2
    unfold vE Vl.cells
    go_wp2
    refine bodyPost_ret (results_cell_row rfl _ _ _ _ _ _ _ rfl (five_set (unhide HF) _ _ _ _ _).1 Tryz.underlying65 rfl infoRef) rfl ?_
    exact ⟨rfl, below_five (unhide HB) (Nat.le_refl _) _ _ _ _ _⟩
  · rw [if_neg hl]
    have hi : (s.size : Int) ≤ 255 := by omega
    clear hl
    unfold Vl.cells
    go_enter Tryz.func106, Tryz.ntmps106
    go_wp2
    refine bodyPost_ret (results_cell_row rfl _ _ _ _ _ _ _ rfl (heap_alloc_new _ _) Tryz.underlying65 rfl infoRef) rfl ?_
    exact ⟨rfl, below_al _ _⟩

set_option maxHeartbeats 2000000 in
theorem sound_ref (v : Vl) (w : World) (hs : v.text.size ≤ 1000000) :
    Calls Tryz.prog 171 #[.agg v.cells] w fun e w' => e = .returned (.agg (vSound v).cells) ∧ Below w.heap.size w w' := by
  have HGR := hide (fun w => good3_ref v w hs)
  unfold vSound
  cases hg : vGood v
  · have HG := hide hg
    clear hg
    unfold Vl.cells at HGR ⊢
    go_enter Tryz.func171, Tryz.ntmps171
    go_wp2_with fail
    refine (unhide HGR _).mono ?_
    rintro e w1 ⟨rfl, b1⟩
    rw [unhide HG]
    go_wp2_with fail
    refine (e_ref 3 _).mono ?_
    rintro e w2 ⟨rfl, b2⟩
    have hf0 := five_below (five_new2 w (.cells #[.int .i64 v.kind, .int .i64 v.num, .string v.text, .bool v.tr, .int .i64 v.fail] 65) 65 (.int .i64 0) (.int .i64 0) (.string noText) (.bool false) (.int .i64 0)) b1 (by simp)
    have hb1 := (below_al2 w (.cells #[.int .i64 v.kind, .int .i64 v.num, .string v.text, .bool v.tr, .int .i64 v.fail] 65) (.cells #[.int .i64 0, .int .i64 0, .string noText, .bool false, .int .i64 0] 65)).trans (b1.mono (by simp; omega))
    have hf := five_below (hf0) b2 (five_lt hf0)
    obtain ⟨x0, c0⟩ := five_c hf 0 (by omega)
    obtain ⟨x1, c1⟩ := five_c hf 1 (by omega)
    obtain ⟨x2, c2⟩ := five_c hf 2 (by omega)
    obtain ⟨x3, c3⟩ := five_c hf 3 (by omega)
    obtain ⟨x4, c4⟩ := five_c hf 4 (by omega)
    have f0 := five_f hf 0
    have f1 := five_f hf 1
    have f2 := five_f hf 2
    have f3 := five_f hf 3
    have f4 := five_f hf 4
    have HF := hide hf
    have HB := hide (below_nx hb1 b2)
    clear hf b2 hf0 b1 hb1
    unfold vE Vl.cells
    go_wp2
    refine bodyPost_ret (results_cell_row rfl _ _ _ _ _ _ _ rfl (five_set (unhide HF) _ _ _ _ _).1 Tryz.underlying65 rfl infoRef) rfl ?_
    exact ⟨rfl, below_five (unhide HB) (by omega) _ _ _ _ _⟩
  · have HG := hide hg
    clear hg
    unfold Vl.cells at HGR ⊢
    go_enter Tryz.func171, Tryz.ntmps171
    go_wp2_with fail
    refine (unhide HGR _).mono ?_
    rintro e w1 ⟨rfl, b2⟩
    rw [unhide HG]
    have ho := five_below (five_old w 65 (.int .i64 v.kind) (.int .i64 v.num) (.string v.text) (.bool v.tr) (.int .i64 v.fail) (.cells #[.int .i64 0, .int .i64 0, .string noText, .bool false, .int .i64 0] 65)) b2 (by simp; omega)
    have o0 : w1.cell? ⟨w.heap.size, 0, none⟩ = some (.int .i64 v.kind) := by simp [World.cell?, ho.1]
    have o1 : w1.cell? ⟨w.heap.size, 1, none⟩ = some (.int .i64 v.num) := by simp [World.cell?, ho.1]
    have o2 : w1.cell? ⟨w.heap.size, 2, none⟩ = some (.string v.text) := by simp [World.cell?, ho.1]
    have o3 : w1.cell? ⟨w.heap.size, 3, none⟩ = some (.bool v.tr) := by simp [World.cell?, ho.1]
    have o4 : w1.cell? ⟨w.heap.size, 4, none⟩ = some (.int .i64 v.fail) := by simp [World.cell?, ho.1]
    clear ho
    have hf := five_below (five_new2 w (.cells #[.int .i64 v.kind, .int .i64 v.num, .string v.text, .bool v.tr, .int .i64 v.fail] 65) 65 (.int .i64 0) (.int .i64 0) (.string noText) (.bool false) (.int .i64 0)) b2 (by simp)
    obtain ⟨x0, c0⟩ := five_c hf 0 (by omega)
    obtain ⟨x1, c1⟩ := five_c hf 1 (by omega)
    obtain ⟨x2, c2⟩ := five_c hf 2 (by omega)
    obtain ⟨x3, c3⟩ := five_c hf 3 (by omega)
    obtain ⟨x4, c4⟩ := five_c hf 4 (by omega)
    have f0 := five_f hf 0
    have f1 := five_f hf 1
    have f2 := five_f hf 2
    have f3 := five_f hf 3
    have f4 := five_f hf 4
    have HF := hide hf
    have HB := hide ((below_al2 w (.cells #[.int .i64 v.kind, .int .i64 v.num, .string v.text, .bool v.tr, .int .i64 v.fail] 65) (.cells #[.int .i64 0, .int .i64 0, .string noText, .bool false, .int .i64 0] 65)).trans (b2.mono (by simp; omega)))
    clear hf b2
    go_wp2
    refine bodyPost_ret (results_cell_row rfl _ _ _ _ _ _ _ rfl (five_set (unhide HF) _ _ _ _ _).1 Tryz.underlying65 rfl infoRef) rfl ?_
    exact ⟨rfl, below_five (unhide HB) (by omega) _ _ _ _ _⟩
end Go.Proofs.YtloamahbghjjgaaGreatDoor

namespace Go.Proofs.YtloamahbghjjgaaGreatDoor
open Go.RowKit

/-- The errors in signs. -/
def signL : List ByteArray := [⟨#[]⟩, ⟨#[35, 68, 73, 86, 47, 48, 33]⟩, ⟨#[35, 78, 85, 77, 33]⟩, ⟨#[35, 86, 65, 76, 85, 69, 33]⟩, ⟨#[35, 82, 69, 70, 33]⟩, ⟨#[35, 78, 65, 77, 69, 63]⟩, ⟨#[35, 78, 47, 65]⟩, ⟨#[35, 67, 89, 67, 76, 69, 33]⟩, ⟨#[35, 76, 73, 78, 75, 33]⟩]
def signV (f : Int) : ByteArray := if f < 1 ∨ 8 < f then noText else signL.getD f.toNat noText

set_option maxHeartbeats 4000000 in
theorem signs_ref (f : Int) (w : World) :
    Calls Tryz.prog 157 #[.int .i64 f] w fun e w' => e = .returned (.string (signV f)) ∧ Below w.heap.size w w' := by
  by_cases h1 : f < 1
  · have e1 : signV f = noText := by unfold signV; rw [if_pos (Or.inl h1)]
    rw [e1]
    have E1 := hide e1
    clear e1
    go_enter Tryz.func157, Tryz.ntmps157
    go_wp2
    go_ret
    exact ⟨rfl, below_al _ _⟩
  · by_cases h2 : 8 < f
    · have e1 : signV f = noText := by unfold signV; rw [if_pos (Or.inr h2)]
      rw [e1]
      have E1 := hide e1
      clear e1
      go_enter Tryz.func157, Tryz.ntmps157
      go_wp2
      go_ret
      exact ⟨rfl, below_al _ _⟩
    · have hf : f = 1 ∨ f = 2 ∨ f = 3 ∨ f = 4 ∨ f = 5 ∨ f = 6 ∨ f = 7 ∨ f = 8 := by omega
      clear h1 h2
      rcases hf with rfl | rfl | rfl | rfl | rfl | rfl | rfl | rfl
      · go_enter Tryz.func157, Tryz.ntmps157
        go_wp2
        go_ret
        exact ⟨rfl, below_al _ _⟩
      · go_enter Tryz.func157, Tryz.ntmps157
        go_wp2
        go_ret
        exact ⟨rfl, below_al _ _⟩
      · go_enter Tryz.func157, Tryz.ntmps157
        go_wp2
        go_ret
        exact ⟨rfl, below_al _ _⟩
      · go_enter Tryz.func157, Tryz.ntmps157
        go_wp2
        go_ret
        exact ⟨rfl, below_al _ _⟩
      · go_enter Tryz.func157, Tryz.ntmps157
        go_wp2
        go_ret
        exact ⟨rfl, below_al _ _⟩
      · go_enter Tryz.func157, Tryz.ntmps157
        go_wp2
        go_ret
        exact ⟨rfl, below_al _ _⟩
      · go_enter Tryz.func157, Tryz.ntmps157
        go_wp2
        go_ret
        exact ⟨rfl, below_al _ _⟩
      · go_enter Tryz.func157, Tryz.ntmps157
        go_wp2
        go_ret
        exact ⟨rfl, below_al _ _⟩
end Go.Proofs.YtloamahbghjjgaaGreatDoor
