/- The contract of the program's Parse. -/
import Derived.Test.YtloamahbghjjgaaGreatDoorPbN
import Derived.Test.YtloamahbghjjgaaGreatDoorLzT0
namespace Go.Proofs.YtloamahbghjjgaaGreatDoor
open Go.RowKit

abbrev noX : Nat → Prop := fun _ => False
theorem rd_start {w : World} {B : Nat} {v : Value} {ts : List Tk} (h : TokRow tkT w B v ts) :
    RdAt noX w.heap.size (w.alloc (.cells #[v, .slice none 0 0, .int .i64 0, .int .i64 0, .int .i64 0] rdT)) (.slice none 0 0) ts [] 0 0 0 := by
  have hlt := World.ownsRow.lt h
  obtain ⟨a, cap, rfl, hcap, hin⟩ := toks_of_row h
  refine ⟨⟨a, cap, cells_new _ _ _, hcap, toks_below hin (below_al _ _), fun p hp => ?_⟩, ⟨[], rfl, World.ownsRow_nil _ _ _ _, fun p hp => by cases hp⟩, fun x hx => hx.elim⟩
  subst hp
  exact (hlt p.block rfl).2
theorem results_t2 {P : Program} {fn : Func} {a b : Tmp} (h : fn.results = #[.tmp a, .tmp b]) (tmps : Array Value) (w : World)
    (x : Value) (hx : tmps.getD a undef = x) (y : Value) (hy : tmps.getD b undef = y) :
    (results fn tmps).run P w = .ok (.tuple #[x, y]) w := by
  have hx' : tmps[a]?.getD undef = x := by simpa using hx
  have hy' : tmps[b]?.getD undef = y := by simpa using hy
  simp [results, h, hx', hy']
theorem RdAt.tree {X : Nat → Prop} {R : Nat} {w : World} {tv : Value} {l : List Tk} {nds : List Nd} {d dp m : Nat} (h : RdAt X R w tv l nds d dp m) : ∃ a cap, tv = .slice a nds.length cap ∧ w.cell? ⟨R, 1, none⟩ = some (.slice a nds.length cap) := by
  obtain ⟨a, cap, h1, _⟩ := h.cells
  obtain ⟨ps, p1, p2, _⟩ := h.row
  have hl : ps.length = nds.length := by rw [← p1]; simp
  have hc := (cells5 h1).2.1
  rcases p2.2 with ⟨rfl, h0⟩ | ⟨g, c, cur, rfl, _⟩
  · exact ⟨none, 0, by rw [← hl, h0], by rw [hc, ← hl, h0]⟩
  · exact ⟨_, c, by rw [hl], by rw [hc, hl]⟩
/-- What Parse tells. -/
def PaPost (T : TypeId) (o : List Nd × Int) (w : World) (e : Ending) (w' : World) : Prop :=
  ∃ v, e = .returned (.tuple #[v, .int .i64 o.2]) ∧ NodeRow T w' w.heap.size v o.1 ∧ Below w.heap.size w w'
theorem parse_bad {l : List UInt8} (h : (lexT l).2.2 ≠ 0) : parseL l = ([], (lexT l).2.2) := by unfold parseL; rw [if_neg h]
theorem parse_ok {l : List UInt8} (h : (lexT l).2.2 = 0) : parseL l = parseS (wholeO (rd (.chain 1) (lexT l).1)) := by unfold parseL; rw [if_pos h]
set_option maxRecDepth 100000 in
set_option maxHeartbeats 4000000 in
theorem parse_val (s : ByteArray) (w : World) (hs : s.size ≤ 1000) (he : Env5 w) : Calls Tryz.prog 12 #[.string s] w (PaPost ndT (parseL s.data.toList) w) := by
  have HL := hide (lex5_val s w hs he)
  have HT := hide (lexT_text s.data.toList hs)
  have hcnt := lexT_count s.data.toList
  obtain ⟨P, hP⟩ : ∃ P, parseL s.data.toList = P := ⟨_, rfl⟩
  have HP := hide hP
  rw [hP]
  obtain ⟨ts, n, x, hX⟩ : ∃ ts n x, lexT s.data.toList = (ts, n, x) := ⟨_, _, _, rfl⟩
  have HX := hide hX
  rw [hX] at HL HT hcnt
  clear hP hX he
  unfold LexPost at HL
  simp only [] at HL HT hcnt
  by_cases hx : x = 0
  · have HPS : Hid (P = parseS (wholeO (rd (.chain 1) ts))) := hide (by rw [← unhide HP, parse_ok (by rw [unhide HX]; exact hx), unhide HX])
    clear HP
    subst hx
    go_enter Tryz.func12, Tryz.ntmps12
    go_wp2_with fail
    refine (unhide HL).mono ?_
    rintro e w1 ⟨v, rfl, hrow, b1⟩
    have HB := hide b1
    have HS := hide (rd_start hrow)
    obtain ⟨a, cap, rfl, _, _⟩ := toks_of_row hrow
    clear hrow b1 HL
    have HW := hide (whole_val _ _ _ ts (unhide HS) ⟨unhide HT, by simp; omega, by omega, by omega, by omega⟩)
    have HB2 := hide (below_nx (unhide HB) (below_al w1 (.cells #[.slice a ts.length cap, .slice none 0 0, .int .i64 0, .int .i64 0, .int .i64 0] rdT)))
    have hle : w.heap.size ≤ w1.heap.size := (unhide HB).size
    clear HS HT HB
    obtain ⟨o, ho⟩ : ∃ o, wholeO (rd (.chain 1) ts) = o := ⟨_, rfl⟩
    rw [ho] at HW HPS
    clear ho
    unfold WhPost at HW
    have below : ∀ w2, Frm w1.heap.size (w1.alloc (.cells #[.slice a ts.length cap, .slice none 0 0, .int .i64 0, .int .i64 0, .int .i64 0] rdT)) w2 → Below w.heap.size w w2 := fun w2 h =>
      (unhide HB2).trans ((h.below (by simp)).mono hle)
    have HBL := hide below
    clear below
    cases o with
    | none =>
      simp only [] at HW
      go_wp2_with fail
      refine (unhide HW).mono ?_
      rintro e w2 ⟨rfl, f2⟩
      have FA := hide (unhide HBL w2 f2)
      clear f2 HBL
      go_wp2
      refine bodyPost_ret (results_t2 rfl _ _ (.slice none 0 0) rfl (.int .i64 4) rfl) rfl ?_
      unfold PaPost
      rw [unhide HPS]
      exact ⟨_, rfl, nodes_nil _ _ _, unhide FA⟩
    | some y =>
      simp only [] at HW
      by_cases h1 : 32 < y.nest
      · have e : P = ([], 8) := by rw [unhide HPS]; simp only [parseS]; rw [if_pos h1]
        have h1i : (32 : Int) < (y.nest : Int) := by omega
        clear h1
        go_wp2_with fail
        refine (unhide HW).mono ?_
        rintro e2 w2 ⟨rfl, f2, tv2, r2⟩
        obtain ⟨k3, _⟩ := r2.cell3
        have FA := hide (unhide HBL w2 f2)
        clear f2 HBL r2
        go_wp2
        refine bodyPost_ret (results_t2 rfl _ _ (.slice none 0 0) rfl (.int .i64 8) rfl) rfl ?_
        unfold PaPost
        rw [e]
        exact ⟨_, rfl, nodes_nil _ _ _, unhide FA⟩
      have h1i : ¬ (32 : Int) < (y.nest : Int) := by omega
      by_cases h2 : 32 < y.most
      · have e : P = ([], 7) := by rw [unhide HPS]; simp only [parseS]; rw [if_neg h1, if_pos h2]
        have h2i : (32 : Int) < (y.most : Int) := by omega
        clear h1 h2
        go_wp2_with fail
        refine (unhide HW).mono ?_
        rintro e2 w2 ⟨rfl, f2, tv2, r2⟩
        obtain ⟨k3, _⟩ := r2.cell3
        obtain ⟨k4, _⟩ := r2.cell4
        have FA := hide (unhide HBL w2 f2)
        clear f2 HBL r2
        go_wp2
        refine bodyPost_ret (results_t2 rfl _ _ (.slice none 0 0) rfl (.int .i64 7) rfl) rfl ?_
        unfold PaPost
        rw [e]
        exact ⟨_, rfl, nodes_nil _ _ _, unhide FA⟩
      have h2i : ¬ (32 : Int) < (y.most : Int) := by omega
      by_cases h3 : 256 < y.size
      · have e : P = ([], 10) := by rw [unhide HPS]; simp only [parseS]; rw [if_neg h1, if_neg h2, if_pos h3]
        have h3i : (256 : Int) < (y.size : Int) := by omega
        clear h1 h2 h3
        go_wp2_with fail
        refine (unhide HW).mono ?_
        rintro e2 w2 ⟨rfl, f2, tv2, r2⟩
        obtain ⟨k3, _⟩ := r2.cell3
        obtain ⟨k4, _⟩ := r2.cell4
        obtain ⟨ta, tcap, rfl, k1⟩ := r2.tree
        rw [emit_len] at k1
        have FA := hide (unhide HBL w2 f2)
        clear f2 HBL r2
        go_wp2
        refine bodyPost_ret (results_t2 rfl _ _ (.slice none 0 0) rfl (.int .i64 10) rfl) rfl ?_
        unfold PaPost
        rw [e]
        exact ⟨_, rfl, nodes_nil _ _ _, unhide FA⟩
      have h3i : ¬ (256 : Int) < (y.size : Int) := by omega
      have e : P = (y.emit 0, 0) := by rw [unhide HPS]; simp only [parseS]; rw [if_neg h1, if_neg h2, if_neg h3]
      clear h1 h2 h3
      go_wp2_with fail
      refine (unhide HW).mono ?_
      rintro e2 w2 ⟨rfl, f2, tv2, r2⟩
      obtain ⟨k3, _⟩ := r2.cell3
      obtain ⟨k4, _⟩ := r2.cell4
      obtain ⟨ta, tcap, rfl, k1⟩ := r2.tree
      rw [emit_len] at k1
      have FA := hide (unhide HBL w2 f2)
      have HR2 := hide r2
      rw [emit_len] at HR2
      clear f2 HBL r2
      go_wp2
      refine bodyPost_ret (results_t2 rfl _ _ (.slice ta y.size tcap) rfl (.int .i64 0) rfl) rfl ?_
      unfold PaPost
      rw [e]
      exact ⟨_, rfl, nodes_mono (nodesX_of (unhide HR2).row) (by omega), unhide FA⟩
  · have e : P = ([], x) := by rw [← unhide HP, parse_bad (by rw [unhide HX]; exact hx), unhide HX]
    have hne : (x != 0) = true := by simpa using hx
    clear hx HT HP
    go_enter Tryz.func12, Tryz.ntmps12
    go_wp2_with fail
    refine (unhide HL).mono ?_
    rintro e w1 ⟨v, rfl, hrow, b1⟩
    have HB := hide b1
    clear hrow b1 HL
    go_wp2
    refine bodyPost_ret (results_t2 rfl _ _ (.slice none 0 0) rfl (.int .i64 x) rfl) rfl ?_
    unfold PaPost
    rw [e]
    exact ⟨_, rfl, nodes_nil _ _ _, unhide HB⟩
end Go.Proofs.YtloamahbghjjgaaGreatDoor
