/- The walks of the reader's ahead, operator, take. -/
import Derived.Test.YtloamahbghjjgaaGreatDoorPbA
import Derived.Test.YtloamahbghjjgaaGreatDoorLxW
import Derived.Deep.MidRow
import Derived.Deep.WholeRow
namespace Go.Proofs.YtloamahbghjjgaaGreatDoor
open Go.RowKit
variable {X : Nat → Prop}

def noT : Tk := ⟨9, emp, 0, 0, zeroF, 0⟩
def headT (l : List Tk) : Tk := match l with | [] => noT | t :: _ => t
theorem tk_at {w : World} {a : Option Addr} {t : Tk} {l : List Tk} (h : ToksIn w a (t :: l)) : ∃ g off, a = some ⟨g, off, none⟩ ∧ g < w.heap.size ∧
    (∀ (j : Nat) (u : Value), t.cells[j]? = some u → w.cell? ⟨g, off + j, none⟩ = some u) ∧ ToksIn w (some ⟨g, off + 16, none⟩) l := by
  rcases h with h | ⟨g, off, rfl, hg, hc⟩
  · cases h
  · refine ⟨g, off, rfl, hg, fun j u hu => by have := hc 0 t rfl j u hu; simpa using this, ?_⟩
    by_cases hl : l = []
    · exact Or.inl hl
    · refine Or.inr ⟨g, off + 16, rfl, hg, fun i u hi j v hv => ?_⟩
      have := hc (i + 1) u (by simpa using hi) j v hv
      rw [show off + (i + 1) * 16 + j = off + 16 + i * 16 + j by omega] at this
      exact this
theorem tk_cells {w : World} {g off : Nat} {t : Tk} (h : ∀ (j : Nat) (u : Value), t.cells[j]? = some u → w.cell? ⟨g, off + j, none⟩ = some u) :
    w.cell? ⟨g, off, none⟩ = some (.int .i64 t.kind) ∧ w.cell? ⟨g, off + 1, none⟩ = some (.string t.text) ∧ w.cell? ⟨g, off + 2, none⟩ = some (.int .i64 t.num) ∧ w.cell? ⟨g, off + 3, none⟩ = some (.int .i64 t.fail) ∧ w.cell? ⟨g, off + 4, none⟩ = some (.string t.ref.book) ∧ w.cell? ⟨g, off + 5, none⟩ = some (.string t.ref.sheet) ∧ w.cell? ⟨g, off + 6, none⟩ = some (.int .i64 t.ref.a.col) ∧ w.cell? ⟨g, off + 7, none⟩ = some (.int .i64 t.ref.a.row) ∧ w.cell? ⟨g, off + 8, none⟩ = some (.bool t.ref.a.fc) ∧ w.cell? ⟨g, off + 9, none⟩ = some (.bool t.ref.a.fr) ∧ w.cell? ⟨g, off + 10, none⟩ = some (.int .i64 t.ref.b.col) ∧ w.cell? ⟨g, off + 11, none⟩ = some (.int .i64 t.ref.b.row) ∧ w.cell? ⟨g, off + 12, none⟩ = some (.bool t.ref.b.fc) ∧ w.cell? ⟨g, off + 13, none⟩ = some (.bool t.ref.b.fr) ∧ w.cell? ⟨g, off + 14, none⟩ = some (.bool t.ref.wide) ∧ w.cell? ⟨g, off + 15, none⟩ = some (.int .i64 t.place) :=
  ⟨h 0 _ rfl, h 1 _ rfl, h 2 _ rfl, h 3 _ rfl, h 4 _ rfl, h 5 _ rfl, h 6 _ rfl, h 7 _ rfl, h 8 _ rfl, h 9 _ rfl, h 10 _ rfl, h 11 _ rfl, h 12 _ rfl, h 13 _ rfl, h 14 _ rfl, h 15 _ rfl⟩
/-- The token that comes next: its row, and where it is kept. -/
theorem tk_of_new (w : World) (t : Tk) : CellsAt (w.alloc (.cells t.cells tkT)) w.heap.size tkT t.cells := cells_new _ _ _
abbrev zTk : Array Value := #[.int .i64 0, .string ⟨#[]⟩, .int .i64 0, .int .i64 0, .string ⟨#[]⟩, .string ⟨#[]⟩, .int .i64 0, .int .i64 0, .bool false, .bool false, .int .i64 0, .int .i64 0, .bool false, .bool false, .bool false, .int .i64 0]
set_option maxRecDepth 100000 in
set_option maxHeartbeats 4000000 in
theorem ahead_val (R : Nat) (w : World) (tv : Value) (l : List Tk) (nds : List Nd) (d dp m : Nat) (h : RdAt X R w tv l nds d dp m) :
    Calls Tryz.prog 191 #[.pointer (some ⟨R, 0, none⟩)] w fun e w' => e = .returned (.agg (headT l).cells) ∧ Below w.heap.size w w' := by
  obtain ⟨a, cap, hc, hcap, ht, ha⟩ := h.cells
  have HT := hide (toks_below ht (below_al w (.cells #[.int .i64 0, .string ⟨#[]⟩, .int .i64 0, .int .i64 0, .string ⟨#[]⟩, .string ⟨#[]⟩, .int .i64 0, .int .i64 0, .bool false, .bool false, .int .i64 0, .int .i64 0, .bool false, .bool false, .bool false, .int .i64 0] tkT)))
  obtain ⟨c0, c1, c2, c3, c4⟩ := cells5 (cells_al hc (.cells #[.int .i64 0, .string ⟨#[]⟩, .int .i64 0, .int .i64 0, .string ⟨#[]⟩, .string ⟨#[]⟩, .int .i64 0, .int .i64 0, .bool false, .bool false, .int .i64 0, .int .i64 0, .bool false, .bool false, .bool false, .int .i64 0] tkT))
  clear ht hc h ha c1 c2 c3 c4
  cases l with
  | nil =>
    simp only [List.length_nil] at c0
    go_enter Tryz.func191, Tryz.ntmps191
    go_wp2
    refine bodyPost_ret (results_c1 rfl _ _ _ _ _ _ rfl (cells_new w tkT noT.cells) Tryz.underlying116 rfl infoTk) rfl ?_
    exact ⟨rfl, below_al _ _⟩
  | cons t l =>
    obtain ⟨g, off, rfl, hg, htk, _⟩ := tk_at (unhide HT)
    obtain ⟨t0, t1, t2, t3, t4, t5, t6, t7, t8, t9, t10, t11, t12, t13, t14, t15⟩ := tk_cells htk
    have hl0 : ¬ ((l.length : Int) + 1 = 0) := by omega
    simp only [List.length_cons] at c0
    clear htk HT hg
    go_enter Tryz.func191, Tryz.ntmps191
    go_wp2
    refine bodyPost_ret (results_c1 rfl _ _ _ _ _ _ rfl (cells_new w tkT t.cells) Tryz.underlying116 rfl infoTk) rfl ?_
    exact ⟨rfl, below_al _ _⟩
def opS (t : Tk) : ByteArray := if t.kind = 5 then t.text else emp
theorem opS_list (t : Tk) : (opS t).data.toList = opL5 t := by
  unfold opS opL5
  split <;> rfl
/-- A token that a callee hands over is stored. -/
theorem tk_new (w : World) (T : Tk) : (storeCells ⟨w.heap.size, 0, none⟩ T.cells.toList 0).run Tryz.prog (w.alloc (.cells #[.int .i64 0, .string ⟨#[]⟩, .int .i64 0, .int .i64 0, .string ⟨#[]⟩, .string ⟨#[]⟩, .int .i64 0, .int .i64 0, .bool false, .bool false, .int .i64 0, .int .i64 0, .bool false, .bool false, .bool false, .int .i64 0] tkT)) = .ok () (w.alloc (.cells T.cells tkT)) :=
  run_storeCells_new w tkT #[.int .i64 0, .string ⟨#[]⟩, .int .i64 0, .int .i64 0, .string ⟨#[]⟩, .string ⟨#[]⟩, .int .i64 0, .int .i64 0, .bool false, .bool false, .int .i64 0, .int .i64 0, .bool false, .bool false, .bool false, .int .i64 0] T.cells infoTk rfl (tk_row T).2
theorem tk_kind (w : World) (T : Tk) : (w.alloc (.cells T.cells tkT)).cell? ⟨w.heap.size, 0, none⟩ = some (.int .i64 T.kind) := cells_c (cells_new w tkT T.cells) 0 _ rfl
theorem tk_text (w : World) (T : Tk) : (w.alloc (.cells T.cells tkT)).cell? ⟨w.heap.size, 1, none⟩ = some (.string T.text) := cells_c (cells_new w tkT T.cells) 1 _ rfl
theorem tk_size (T : Tk) : T.cells.size = 16 := rfl
set_option maxRecDepth 100000 in
set_option maxHeartbeats 4000000 in
theorem rop_val (R : Nat) (w : World) (tv : Value) (l : List Tk) (nds : List Nd) (d dp m : Nat) (h : RdAt X R w tv l nds d dp m) :
    Calls Tryz.prog 153 #[.pointer (some ⟨R, 0, none⟩)] w fun e w' => e = .returned (.string (opS (headT l))) ∧ Below w.heap.size w w' := by
  have HA := hide (ahead_val R w tv l nds d dp m h)
  obtain ⟨T, hT⟩ : ∃ T, headT l = T := ⟨_, rfl⟩
  rw [hT] at HA
  rw [hT]
  clear hT h
  have zT := tk_size T
  unfold opS
  by_cases hk : T.kind = 5
  · rw [if_pos hk]
    go_enter Tryz.func153, Tryz.ntmps153
    go_wp2_with fail
    refine (unhide HA).mono ?_
    rintro e w1 ⟨rfl, b1⟩
    have st := tk_new w1 T
    have k0 := tk_kind w1 T
    have k1 := tk_text w1 T
    rw [hk] at k0
    clear hk
    go_wp2
    go_ret
    exact ⟨rfl, below_nx b1 (below_al _ _)⟩
  · rw [if_neg hk]
    go_enter Tryz.func153, Tryz.ntmps153
    go_wp2_with fail
    refine (unhide HA).mono ?_
    rintro e w1 ⟨rfl, b1⟩
    have st := tk_new w1 T
    have k0 := tk_kind w1 T
    go_wp2
    go_ret
    exact ⟨rfl, below_nx b1 (below_al _ _)⟩
/-- The panic by which the reader tells that tokens are no formula's. -/
def noForm : List PanicEntry := [{ v := .iface 24 (.int .i64 4), recovered := false }]
set_option maxRecDepth 100000 in
set_option maxHeartbeats 4000000 in
theorem take_bad (R : Nat) (w : World) (tv : Value) (l : List Tk) (nds : List Nd) (d dp m : Nat) (k : Int) (h : RdAt X R w tv l nds d dp m) (hk : (headT l).kind ≠ k) :
    Calls Tryz.prog 154 #[.pointer (some ⟨R, 0, none⟩), .int .i64 k] w fun e w' => e = .panicked noForm ∧ Frm R w w' := by
  have HA := hide (ahead_val R _ tv l nds d dp m (h.nx (below_al w (.cells #[.int .i64 0, .string ⟨#[]⟩, .int .i64 0, .int .i64 0, .string ⟨#[]⟩, .string ⟨#[]⟩, .int .i64 0, .int .i64 0, .bool false, .bool false, .int .i64 0, .int .i64 0, .bool false, .bool false, .bool false, .int .i64 0] tkT))))
  obtain ⟨T, hT⟩ : ∃ T, headT l = T := ⟨_, rfl⟩
  rw [hT] at HA hk
  clear hT h
  have zT := tk_size T
  go_enter Tryz.func154, Tryz.ntmps154
  go_wp2_with fail
  refine (unhide HA).mono ?_
  rintro e w1 ⟨rfl, b1⟩
  have HB := hide (below_nx (below_al w _) b1)
  clear b1
  have st := tk_new w1 T
  have k0 := tk_kind w1 T
  have k2 : (T.kind != k) = true := by simpa using hk
  clear hk
  go_wp2
  exact ⟨rfl, rfl, Frm.of (below_nx (unhide HB) (below_al _ _))⟩
/-- A row of tokens beside the reader is written. -/
theorem RdAt.apart {R A : Nat} {w w' : World} {tv : Value} {l : List Tk} {nds : List Nd} {d dp m : Nat} {cs : Array Value} (h : RdAt X R w tv l nds d dp m) (hA : CellsAt w A tkT cs) (hR : R < A) (hb : ∀ k, k ≠ A → w'.heap[k]? = w.heap[k]?) (hs : w.heap.size ≤ w'.heap.size) : RdAt X R w' tv l nds d dp m := by
  obtain ⟨a, cap, h1, h2, h3, h4⟩ := h.cells
  obtain ⟨ps, p1, p2, p3⟩ := h.row
  have far : ∀ {B T n s : Nat} {v : Value} {xs : List Value}, w.ownsRow B T s v n xs → T ≠ tkT → w'.ownsRow B T s v n xs := fun {B T n s v xs} hr hT =>
    owns_grown hr (fun k _ hv => hb k (fun e => by
      obtain ⟨cur, hc⟩ := owns_type hr hv
      unfold CellsAt at hA
      rw [e, hA] at hc
      cases hc
      exact hT rfl))
  refine ⟨⟨a, cap, ?_, h2, toks_old h3 h4 (fun k hk => hb k (by omega)) hs, h4⟩, ⟨ps, p1, far p2 (by decide), fun p hp => ⟨far (p3 p hp).1 (by decide), (p3 p hp).2⟩⟩, fun x hx => Nat.lt_of_lt_of_le (h.lim x hx) hs⟩
  unfold CellsAt at h1 ⊢
  rw [hb R (by omega)]; exact h1
theorem setRow_else (w : World) (A : Nat) (cs : Array Value) (k : Nat) (h : k ≠ A) : (w.setRow A cs).heap[k]? = w.heap[k]? := setRow_other w A k cs h
theorem range_cells {w : World} {B : Nat} {t : TypeId} {cs : Array Value} (h : CellsAt w B t cs) : w.rangeAt B 0 cs.toList := fun j v hv => by
  rw [Nat.zero_add]; exact cells_c h j v (by simpa using hv)
set_option maxRecDepth 100000 in
set_option maxHeartbeats 4000000 in
theorem take_ok (R : Nat) (w : World) (tv : Value) (t : Tk) (l : List Tk) (nds : List Nd) (d dp m : Nat) (h : RdAt X R w tv (t :: l) nds d dp m) (hlen : l.length ≤ 1000000) :
    Calls Tryz.prog 154 #[.pointer (some ⟨R, 0, none⟩), .int .i64 t.kind] w fun e w' => e = .returned (.agg t.cells) ∧ RdAt X R w' tv l nds d dp m ∧ Frm R w w' := by
  have HA := hide (ahead_val R _ tv (t :: l) nds d dp m (h.nx (below_al w (.cells #[.int .i64 0, .string ⟨#[]⟩, .int .i64 0, .int .i64 0, .string ⟨#[]⟩, .string ⟨#[]⟩, .int .i64 0, .int .i64 0, .bool false, .bool false, .int .i64 0, .int .i64 0, .bool false, .bool false, .bool false, .int .i64 0] tkT))))
  have hR := h.lt
  have HH := hide h
  clear h
  have zT := tk_size t
  have h2 : (t.kind != t.kind) = false := by simp
  go_enter Tryz.func154, Tryz.ntmps154
  go_wp2_with fail
  refine (unhide HA).mono ?_
  rintro e w1 ⟨rfl, b1⟩
  have HB := hide (below_nx (below_nx (below_al w _) b1) (below_al w1 (.cells t.cells tkT)))
  have CA := hide (cells_al (cells_nx (cells_new w tkT #[.int .i64 0, .string ⟨#[]⟩, .int .i64 0, .int .i64 0, .string ⟨#[]⟩, .string ⟨#[]⟩, .int .i64 0, .int .i64 0, .bool false, .bool false, .int .i64 0, .int .i64 0, .bool false, .bool false, .bool false, .int .i64 0]) b1) (.cells t.cells tkT))
  have C5 := hide (cells_new w1 tkT t.cells)
  have hlt : w.heap.size < w1.heap.size := by have := b1.size; simp at this; omega
  clear b1
  have st := tk_new w1 t
  have k0 := tk_kind w1 t
  rw [show headT (t :: l) = t from rfl]
  clear HA
  go_upto_region 4 with fail
  clear st k0
  generalize hW : w1.alloc (.cells t.cells tkT) = W1 at HB CA C5 ⊢
  obtain ⟨N1, hN1⟩ : ∃ N1, w1.heap.size = N1 := ⟨_, rfl⟩
  rw [hN1] at C5 hlt ⊢
  clear hW hN1
  have RD := hide ((unhide HH).nx (unhide HB))
  obtain ⟨a, cap, hc, hcap, ht, ha⟩ := (unhide RD).cells
  have HC := hide hc
  obtain ⟨g, off, rfl, hg, _, ht'⟩ := tk_at ht
  have HT := hide ht'
  have hgR : g < R := ha _ rfl
  clear ha ht ht' hg
  obtain ⟨c0, _, _, _, _⟩ := cells5 hc
  have f0 := cells_f hc 0
  clear hc
  simp only [List.length_cons] at c0 hcap
  have fin : ∀ (a' : Option Addr) (cap' : Nat), l.length ≤ cap' → ToksIn W1 a' l → (∀ p, a' = some p → p.block < R) →
      RdAt X R ((W1.setCell ⟨R, 0, none⟩ (.slice a' l.length cap')).setRow w.heap.size t.cells) tv l nds d dp m ∧ Frm R w ((W1.setCell ⟨R, 0, none⟩ (.slice a' l.length cap')).setRow w.heap.size t.cells) := by
    intro a' cap' q1 q2 q3
    have hp : RdAt X R (W1.setCell ⟨R, 0, none⟩ (.slice a' l.length cap')) tv l nds d dp m :=
      (unhide RD).put 0 (.slice a' l.length cap') tv l d dp m (fun a cap _ _ _ _ => ⟨a', cap', rfl, q1, q2, q3⟩) (unhide RD).row
    refine ⟨hp.apart (cells_set_far (unhide CA) (show w.heap.size ≠ R by omega) 0 _) hR (fun k hk => setRow_else _ _ _ k hk) (by simp [World.setRow]), ?_⟩
    have h1 : Frm R w (W1.setCell ⟨R, 0, none⟩ (.slice a' l.length cap')) := (Frm.of (unhide HB)).set 0 _
    refine ⟨h1.os, h1.tape, h1.output, (by have := h1.size; simp [World.setRow, World.setCell] at this ⊢; exact this), fun k hk hkR hn => ?_⟩
    rw [setRow_else _ _ _ k (by omega)]
    exact h1.block k hk hkR hn
  have HF := hide fin
  clear fin
  by_cases h1 : cap = 1
  · subst h1
    have hl : l = [] := List.eq_nil_of_length_eq_zero (by omega)
    subst hl
    simp only [List.length_nil] at c0 hcap
    have CA2 := hide (cells_set_far (unhide CA) (show w.heap.size ≠ R by omega) 0 (.slice (some ⟨g, off, none⟩) 0 0))
    have C52 := hide (range_cells (cells_set_far (unhide C5) (show N1 ≠ R by omega) 0 (.slice (some ⟨g, off, none⟩) 0 0)))
    have st2 := tk_store (P := Tryz.prog) (unhide CA2) rfl (tk_row t)
    go_wp2_with (refine wpList_load_mid rfl 116 _ rfl N1 0 rfl t.cells.toList _ (unhide C52) Tryz.underlying116 rfl infoTk ?_)
    refine bodyPost_ret (results_c1 rfl _ _ _ _ _ _ rfl (cells_row (unhide CA2) t.cells) Tryz.underlying116 rfl infoTk) rfl ?_
    exact ⟨rfl, unhide HF (some ⟨g, off, none⟩) 0 (by simp) (Or.inl rfl) (fun p hp => by cases hp; exact hgR)⟩
  · have CA2 := hide (cells_set_far (unhide CA) (show w.heap.size ≠ R by omega) 0 (.slice (some ⟨g, off + 16, none⟩) l.length (cap - 1)))
    have C52 := hide (range_cells (cells_set_far (unhide C5) (show N1 ≠ R by omega) 0 (.slice (some ⟨g, off + 16, none⟩) l.length (cap - 1))))
    have st2 := tk_store (P := Tryz.prog) (unhide CA2) rfl (tk_row t)
    go_wp2_with (refine wpList_load_mid rfl 116 _ rfl N1 0 rfl t.cells.toList _ (unhide C52) Tryz.underlying116 rfl infoTk ?_)
    refine bodyPost_ret (results_c1 rfl _ _ _ _ _ _ rfl (cells_row (unhide CA2) t.cells) Tryz.underlying116 rfl infoTk) rfl ?_
    exact ⟨rfl, unhide HF (some ⟨g, off + 16, none⟩) (cap - 1) (by omega) (unhide HT) (fun p hp => by cases hp; exact hgR)⟩
/-- A token's fields. -/
theorem tk_fld0 (T : Tk) (w : World) : (Instr.field 116 (.agg T.cells) 0).run Tryz.prog w = .ok (.int .i64 T.kind) w := by kernel_rfl
theorem tk_fld1 (T : Tk) (w : World) : (Instr.field 116 (.agg T.cells) 1).run Tryz.prog w = .ok (.string T.text) w := by kernel_rfl
theorem tk_fld4 (T : Tk) (w : World) : (Instr.field 116 (.agg T.cells) 4).run Tryz.prog w = .ok (.agg #[.string T.ref.book, .string T.ref.sheet, .int .i64 T.ref.a.col, .int .i64 T.ref.a.row, .bool T.ref.a.fc, .bool T.ref.a.fr, .int .i64 T.ref.b.col, .int .i64 T.ref.b.row, .bool T.ref.b.fc, .bool T.ref.b.fr, .bool T.ref.wide]) w := by kernel_rfl
end Go.Proofs.YtloamahbghjjgaaGreatDoor
