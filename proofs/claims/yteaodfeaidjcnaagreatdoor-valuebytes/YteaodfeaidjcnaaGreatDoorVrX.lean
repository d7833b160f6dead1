/- The contract of the reference's Put, of layer 3. -/
import Derived.Test.YteaodfeaidjcnaaGreatDoorVwB0
import Derived.Test.YteaodfeaidjcnaaGreatDoorRfB
import Derived.Laws.OwnMore
import Derived.Deep.AppendLies
namespace Go.Proofs.YteaodfeaidjcnaaGreatDoor
open Go.RowKit

theorem info5 : (Tryz.prog.info? 5).map (fun i => (i.zero, i.size, i.bytes)) = some (some (.int .u8 0), 1, 1) := by kernel_rfl
def bV (c : UInt8) : Value := .int .u8 (c.toNat : Int)
/-- A row of bytes of one's own, and the world that it lies in. -/
structure PutAt (w1 wr : World) (v : Value) (l : List UInt8) : Prop where
  own : wr.ownsRow w1.heap.size 5 1 v l.length (l.map bV)
  bel : Below w1.heap.size w1 wr
theorem oneB (x : Int) : ∀ u ∈ [Value.int .u8 x], u.oneCell' = true := by
  intro u hu
  simp at hu
  subst hu
  rfl
theorem put_start (w1 : World) (c : UInt8) (x : Int) (h : x = (c.toNat : Int)) : PutAt w1 (w1.alloc (.cells #[.int .u8 x] 5)) (.slice (some ⟨w1.heap.size, 0, none⟩) 1 1) [c] := by
  subst h
  exact ⟨World.ownsRow_lit w1 #[bV c] 1 (Nat.le_refl _) (by decide) rfl, below_al _ _⟩
theorem put_step {w1 wr w2 : World} {v v' : Value} {l : List UInt8} {x : Int} {o : Obj} (c : UInt8) (hx : x = (c.toNat : Int)) (h : PutAt w1 wr v l)
    (hown' : w2.ownsRow w1.heap.size 5 1 v' (l.length + 1) (l.map bV ++ [.int .u8 x])) (hgrow : (wr.alloc o).grownBy w2 v.ownBlock) : PutAt w1 w2 v' (l ++ [c]) := by
  subst hx
  refine ⟨?_, (h.bel.alloc h.bel.size o).grown hgrow (by have := h.bel.size; simp; omega) ?_⟩
  · rw [List.length_append, List.map_append]; exact hown'
  · intro j hj
    rcases h.own.2 with ⟨rfl, _⟩ | ⟨g, cap, cur, rfl, hg, _⟩
    · cases hj
    · simp [Value.ownBlock] at hj; omega
theorem put_conv {w1 wr : World} {v : Value} {l : List UInt8} (h : PutAt w1 wr v l) (hl : 0 < l.length) : (convert 81 9 v).run Tryz.prog wr = .ok (.string ⟨l.toArray⟩) wr := by
  obtain ⟨g, cap, rfl, hg, _⟩ := h.own.form hl
  exact run_convert_bytes_back (P := Tryz.prog) wr 81 9 5 ⟨g, 0, none⟩ cap l Tryz.underlying81 Tryz.underlying5 Tryz.underlying9 (fun j hj => by
    have hadd : (⟨g, 0, none⟩ : Addr).add j = ⟨g, j, none⟩ := by unfold Addr.add; split <;> simp_all
    rw [hadd, h.own.cellAt j (by omega), List.getElem?_map, List.getElem?_eq_getElem hj]
    rfl)
theorem pair_put {X : Vl} {a : ByteArray} (hg : vGood X = true) (h : (⟨(putL X).toArray⟩ : ByteArray) = a) : Ending.returned (.tuple #[.string a, .int .i64 0]) = .returned (.tuple #[.string (putV X).1, .int .i64 (putV X).2]) := by
  subst h
  unfold putV
  rw [if_pos hg]

/-- The powers that the reference divides by. -/
def pw8 : Nat → Int
  | 0 => 72057594037927936
  | 1 => 281474976710656
  | 2 => 1099511627776
  | 3 => 4294967296
  | 4 => 16777216
  | 5 => 65536
  | 6 => 256
  | 7 => 1
  | _ => 0
theorem byte_of (x : Int) (k : Nat) (h : x = (k : Int) ∧ k < 256) : x = ((UInt8.ofNat k).toNat : Int) := by
  rw [UInt8.toNat_ofNat', h.1]; omega

set_option maxRecDepth 100000 in
set_option maxHeartbeats 2000000 in
theorem put_ref_bad (v : Vl) (w : World) (hs : v.text.size ≤ 1000000) (hg : vGood v = false) :
    Calls Tryz.prog 16 #[.agg v.cells] w fun e w' => e = .returned (.tuple #[.string (putV v).1, .int .i64 (putV v).2]) ∧ Below w.heap.size w w' := by
  have HG := hide (fun w => good3_ref v w hs)
  have E : Hid (putV v = (noText, 4)) := hide (by unfold putV; rw [hg]; rfl)
  rw [hg] at HG
  clear hg
  unfold Vl.cells at HG ⊢
  go_enter Tryz.func16, Tryz.ntmps16
  go_wp2_with fail
  refine (unhide HG _).mono ?_
  rintro e w1 ⟨rfl, b1⟩
  have HB := hide (below_nx (below_al w (.cells #[.int .i64 v.kind, .int .i64 v.num, .string v.text, .bool v.tr, .int .i64 v.fail] 29)) b1)
  clear b1
  go_wp2
  go_ret2
  exact ⟨pair_s (unhide E), unhide HB⟩

set_option maxRecDepth 100000 in
set_option maxHeartbeats 2000000 in
theorem put_ref0 (w : World) :
    Calls Tryz.prog 16 #[.agg (⟨0, 0, noText, false, 0⟩ : Vl).cells] w fun e w' => e = .returned (.tuple #[.string (putV ⟨0, 0, noText, false, 0⟩).1, .int .i64 (putV ⟨0, 0, noText, false, 0⟩).2]) ∧ Below w.heap.size w w' := by
  have GX : Hid (vGood ⟨0, 0, noText, false, 0⟩ = true) := hide (by decide +kernel)
  have HG : Hid (∀ w, Calls Tryz.prog 42 #[.agg (⟨0, 0, noText, false, 0⟩ : Vl).cells] w fun e w' => e = .returned (.bool true) ∧ Below w.heap.size w w') := hide (fun w => by have h := good3_ref ⟨0, 0, noText, false, 0⟩ w (by decide); rw [unhide GX] at h; exact h)
  unfold Vl.cells at HG ⊢
  simp only [] at HG ⊢
  obtain ⟨i0, hi, hz0, hz1, hz2⟩ := info_parts info5
  go_enter Tryz.func16, Tryz.ntmps16
  go_wp2_with fail
  refine (unhide HG _).mono ?_
  rintro e w1 ⟨rfl, b1⟩
  have HF := hide (five_below (five_new w 29 (.int .i64 0) (.int .i64 0) (.string ⟨#[]⟩) (.bool false) (.int .i64 0)) b1 (by simp))
  have HB := hide (below_nx (below_al w (.cells #[.int .i64 0, .int .i64 0, .string ⟨#[]⟩, .bool false, .int .i64 0] 29)) b1)
  clear b1 HG
  have HF1 := HF
  obtain ⟨c0, c1, c2, c3, c4⟩ := five_cells (unhide HF)
  go_upto_region 5 with fail
  have HP := hide (put_start w1 0 0 rfl)
  replace HF := hide (five_below (unhide HF) (below_al w1 (.cells #[.int .u8 0] 5)) (five_lt (unhide HF)))
  clear c0 c1 c2 c3 c4
  generalize hW : w1.alloc (.cells #[.int .u8 0] 5) = W4 at HP HF ⊢
  clear hW
  obtain ⟨c0, c1, c2, c3, c4⟩ := five_cells (unhide HF)
  have hcv := put_conv (unhide HP) (by simp)
  go_wp2
  go_ret2
  exact ⟨pair_put (unhide GX) (rfl), below_nx (unhide HB) (unhide HP).bel⟩

set_option maxRecDepth 100000 in
set_option maxHeartbeats 2000000 in
theorem put_ref3f (w : World) :
    Calls Tryz.prog 16 #[.agg (⟨3, 0, noText, false, 0⟩ : Vl).cells] w fun e w' => e = .returned (.tuple #[.string (putV ⟨3, 0, noText, false, 0⟩).1, .int .i64 (putV ⟨3, 0, noText, false, 0⟩).2]) ∧ Below w.heap.size w w' := by
  have GX : Hid (vGood ⟨3, 0, noText, false, 0⟩ = true) := hide (by decide +kernel)
  have HG : Hid (∀ w, Calls Tryz.prog 42 #[.agg (⟨3, 0, noText, false, 0⟩ : Vl).cells] w fun e w' => e = .returned (.bool true) ∧ Below w.heap.size w w') := hide (fun w => by have h := good3_ref ⟨3, 0, noText, false, 0⟩ w (by decide); rw [unhide GX] at h; exact h)
  unfold Vl.cells at HG ⊢
  simp only [] at HG ⊢
  obtain ⟨i0, hi, hz0, hz1, hz2⟩ := info_parts info5
  go_enter Tryz.func16, Tryz.ntmps16
  go_wp2_with fail
  refine (unhide HG _).mono ?_
  rintro e w1 ⟨rfl, b1⟩
  have HF := hide (five_below (five_new w 29 (.int .i64 3) (.int .i64 0) (.string ⟨#[]⟩) (.bool false) (.int .i64 0)) b1 (by simp))
  have HB := hide (below_nx (below_al w (.cells #[.int .i64 3, .int .i64 0, .string ⟨#[]⟩, .bool false, .int .i64 0] 29)) b1)
  clear b1 HG
  have HF1 := HF
  obtain ⟨c0, c1, c2, c3, c4⟩ := five_cells (unhide HF)
  go_upto_region 5 with fail
  have HP := hide (put_start w1 3 3 rfl)
  replace HF := hide (five_below (unhide HF) (below_al w1 (.cells #[.int .u8 3] 5)) (five_lt (unhide HF)))
  clear c0 c1 c2 c3 c4
  generalize hW : w1.alloc (.cells #[.int .u8 3] 5) = W4 at HP HF ⊢
  clear hW
  obtain ⟨c0, c1, c2, c3, c4⟩ := five_cells (unhide HF)
  go_wp2_with (first
    | (at_builtin; refine wpList_append_own _ rfl _ _ 81 rfl w1.heap.size 5 i0 (.int .u8 0) 1 1 Tryz.underlying81 hi hz0 hz1 hz2 rfl (by decide) _ _ _ rfl ((unhide HP).own.alloc _) ⟨W4.heap.size, 0, none⟩ 1 1 [.int .u8 (0)] rfl rfl (one_cell _ _ _) (oneB _) (by unfold maxLen; simp) (by simp) (by have := (unhide HP).bel.size; simp; omega) ?_)
    | go_in)
  · intro v' w2 hown' hgrow _
    replace HP := hide (put_step 0 (rfl) (unhide HP) hown' hgrow)
    clear hown' hgrow
    have hcv := put_conv (unhide HP) (by simp)
    go_wp2
    go_ret2
    exact ⟨pair_put (unhide GX) (rfl), below_nx (unhide HB) (unhide HP).bel⟩

set_option maxRecDepth 100000 in
set_option maxHeartbeats 2000000 in
theorem put_ref3t (w : World) :
    Calls Tryz.prog 16 #[.agg (⟨3, 0, noText, true, 0⟩ : Vl).cells] w fun e w' => e = .returned (.tuple #[.string (putV ⟨3, 0, noText, true, 0⟩).1, .int .i64 (putV ⟨3, 0, noText, true, 0⟩).2]) ∧ Below w.heap.size w w' := by
  have GX : Hid (vGood ⟨3, 0, noText, true, 0⟩ = true) := hide (by decide +kernel)
  have HG : Hid (∀ w, Calls Tryz.prog 42 #[.agg (⟨3, 0, noText, true, 0⟩ : Vl).cells] w fun e w' => e = .returned (.bool true) ∧ Below w.heap.size w w') := hide (fun w => by have h := good3_ref ⟨3, 0, noText, true, 0⟩ w (by decide); rw [unhide GX] at h; exact h)
  unfold Vl.cells at HG ⊢
  simp only [] at HG ⊢
  obtain ⟨i0, hi, hz0, hz1, hz2⟩ := info_parts info5
  go_enter Tryz.func16, Tryz.ntmps16
  go_wp2_with fail
  refine (unhide HG _).mono ?_
  rintro e w1 ⟨rfl, b1⟩
  have HF := hide (five_below (five_new w 29 (.int .i64 3) (.int .i64 0) (.string ⟨#[]⟩) (.bool true) (.int .i64 0)) b1 (by simp))
  have HB := hide (below_nx (below_al w (.cells #[.int .i64 3, .int .i64 0, .string ⟨#[]⟩, .bool true, .int .i64 0] 29)) b1)
  clear b1 HG
  have HF1 := HF
  obtain ⟨c0, c1, c2, c3, c4⟩ := five_cells (unhide HF)
  go_upto_region 5 with fail
  have HP := hide (put_start w1 3 3 rfl)
  replace HF := hide (five_below (unhide HF) (below_al w1 (.cells #[.int .u8 3] 5)) (five_lt (unhide HF)))
  clear c0 c1 c2 c3 c4
  generalize hW : w1.alloc (.cells #[.int .u8 3] 5) = W4 at HP HF ⊢
  clear hW
  obtain ⟨c0, c1, c2, c3, c4⟩ := five_cells (unhide HF)
  go_wp2_with (first
    | (at_builtin; refine wpList_append_own _ rfl _ _ 81 rfl w1.heap.size 5 i0 (.int .u8 0) 1 1 Tryz.underlying81 hi hz0 hz1 hz2 rfl (by decide) _ _ _ rfl ((unhide HP).own.alloc _) ⟨W4.heap.size, 0, none⟩ 1 1 [.int .u8 (1)] rfl rfl (one_cell _ _ _) (oneB _) (by unfold maxLen; simp) (by simp) (by have := (unhide HP).bel.size; simp; omega) ?_)
    | go_in)
  · intro v' w2 hown' hgrow _
    replace HP := hide (put_step 1 (rfl) (unhide HP) hown' hgrow)
    clear hown' hgrow
    have hcv := put_conv (unhide HP) (by simp)
    go_wp2
    go_ret2
    exact ⟨pair_put (unhide GX) (rfl), below_nx (unhide HB) (unhide HP).bel⟩

set_option maxRecDepth 100000 in
set_option maxHeartbeats 2000000 in
theorem put_ref4 (w : World) (f : Int) (h1 : 1 ≤ f) (h8 : f ≤ 8) :
    Calls Tryz.prog 16 #[.agg (⟨4, 0, noText, false, f⟩ : Vl).cells] w fun e w' => e = .returned (.tuple #[.string (putV ⟨4, 0, noText, false, f⟩).1, .int .i64 (putV ⟨4, 0, noText, false, f⟩).2]) ∧ Below w.heap.size w w' := by
  have GX : Hid (vGood ⟨4, 0, noText, false, f⟩ = true) := hide (by rw [vGood4, noText_list, show decide (1 ≤ f) = true from decide_eq_true h1, show decide (f ≤ 8) = true from decide_eq_true h8]; rfl)
  have HG : Hid (∀ w, Calls Tryz.prog 42 #[.agg (⟨4, 0, noText, false, f⟩ : Vl).cells] w fun e w' => e = .returned (.bool true) ∧ Below w.heap.size w w') := hide (fun w => by have h := good3_ref ⟨4, 0, noText, false, f⟩ w (by show noText.size ≤ _; decide); rw [unhide GX] at h; exact h)
  unfold Vl.cells at HG ⊢
  simp only [] at HG ⊢
  obtain ⟨i0, hi, hz0, hz1, hz2⟩ := info_parts info5
  go_enter Tryz.func16, Tryz.ntmps16
  go_wp2_with fail
  refine (unhide HG _).mono ?_
  rintro e w1 ⟨rfl, b1⟩
  have HF := hide (five_below (five_new w 29 (.int .i64 4) (.int .i64 0) (.string ⟨#[]⟩) (.bool false) (.int .i64 f)) b1 (by simp))
  have HB := hide (below_nx (below_al w (.cells #[.int .i64 4, .int .i64 0, .string ⟨#[]⟩, .bool false, .int .i64 f] 29)) b1)
  clear b1 HG
  have HF1 := HF
  obtain ⟨c0, c1, c2, c3, c4⟩ := five_cells (unhide HF)
  go_upto_region 5 with fail
  have HP := hide (put_start w1 4 4 rfl)
  replace HF := hide (five_below (unhide HF) (below_al w1 (.cells #[.int .u8 4] 5)) (five_lt (unhide HF)))
  clear c0 c1 c2 c3 c4
  generalize hW : w1.alloc (.cells #[.int .u8 4] 5) = W4 at HP HF ⊢
  clear hW
  obtain ⟨c0, c1, c2, c3, c4⟩ := five_cells (unhide HF)
  have h256 : f % 256 = f := by omega
  go_wp2_with (first
    | (at_builtin; refine wpList_append_own _ rfl _ _ 81 rfl w1.heap.size 5 i0 (.int .u8 0) 1 1 Tryz.underlying81 hi hz0 hz1 hz2 rfl (by decide) _ _ _ rfl ((unhide HP).own.alloc _) ⟨W4.heap.size, 0, none⟩ 1 1 [.int .u8 (f)] rfl rfl (one_cell _ _ _) (oneB _) (by unfold maxLen; simp) (by simp) (by have := (unhide HP).bel.size; simp; omega) ?_)
    | go_in)
  · intro v' w2 hown' hgrow _
    replace HP := hide (put_step (UInt8.ofNat f.toNat) (by rw [UInt8.toNat_ofNat']; omega) (unhide HP) hown' hgrow)
    clear hown' hgrow
    have hcv := put_conv (unhide HP) (by simp)
    go_wp2
    go_ret2
    exact ⟨pair_put (unhide GX) (rfl), below_nx (unhide HB) (unhide HP).bel⟩

set_option maxRecDepth 100000 in
set_option maxHeartbeats 2000000 in
theorem put_ref2 (w : World) (s : ByteArray) (hs : s.size ≤ 255) :
    Calls Tryz.prog 16 #[.agg (⟨2, 0, s, false, 0⟩ : Vl).cells] w fun e w' => e = .returned (.tuple #[.string (putV ⟨2, 0, s, false, 0⟩).1, .int .i64 (putV ⟨2, 0, s, false, 0⟩).2]) ∧ Below w.heap.size w w' := by
  have GX : Hid (vGood ⟨2, 0, s, false, 0⟩ = true) := hide (by rw [vGood2, show decide (s.size ≤ 255) = true from decide_eq_true hs]; rfl)
  have HG : Hid (∀ w, Calls Tryz.prog 42 #[.agg (⟨2, 0, s, false, 0⟩ : Vl).cells] w fun e w' => e = .returned (.bool true) ∧ Below w.heap.size w w') := hide (fun w => by have h := good3_ref ⟨2, 0, s, false, 0⟩ w (by show s.size ≤ _; omega); rw [unhide GX] at h; exact h)
  unfold Vl.cells at HG ⊢
  simp only [] at HG ⊢
  obtain ⟨i0, hi, hz0, hz1, hz2⟩ := info_parts info5
  go_enter Tryz.func16, Tryz.ntmps16
  go_wp2_with fail
  refine (unhide HG _).mono ?_
  rintro e w1 ⟨rfl, b1⟩
  have HF := hide (five_below (five_new w 29 (.int .i64 2) (.int .i64 0) (.string s) (.bool false) (.int .i64 0)) b1 (by simp))
  have HB := hide (below_nx (below_al w (.cells #[.int .i64 2, .int .i64 0, .string s, .bool false, .int .i64 0] 29)) b1)
  clear b1 HG
  have HF1 := HF
  obtain ⟨c0, c1, c2, c3, c4⟩ := five_cells (unhide HF)
  go_upto_region 5 with fail
  have HP := hide (put_start w1 2 2 rfl)
  replace HF := hide (five_below (unhide HF) (below_al w1 (.cells #[.int .u8 2] 5)) (five_lt (unhide HF)))
  clear c0 c1 c2 c3 c4
  generalize hW : w1.alloc (.cells #[.int .u8 2] 5) = W4 at HP HF ⊢
  clear hW
  obtain ⟨c0, c1, c2, c3, c4⟩ := five_cells (unhide HF)
  have h256 : (s.size : Int) % 256 = (s.size : Int) := by omega
  go_wp2_with (first
    | (at_builtin; refine wpList_append_own _ rfl _ _ 81 rfl w1.heap.size 5 i0 (.int .u8 0) 1 1 Tryz.underlying81 hi hz0 hz1 hz2 rfl (by decide) _ _ _ rfl ((unhide HP).own.alloc _) ⟨W4.heap.size, 0, none⟩ 1 1 [.int .u8 ((s.size : Int))] rfl rfl (one_cell _ _ _) (oneB _) (by unfold maxLen; simp) (by simp) (by have := (unhide HP).bel.size; simp; omega) ?_)
    | go_in)
  · intro v' w2 hown' hgrow _
    replace HP := hide (put_step (UInt8.ofNat s.size) (by rw [UInt8.toNat_ofNat']; omega) (unhide HP) hown' hgrow)
    clear hown' hgrow
    clear c0 c1 c2 c3 c4 HF h256
    obtain ⟨c0, c1, c2, c3, c4⟩ := five_cells (five_below (unhide HF1) (unhide HP).bel (five_lt (unhide HF1)))
    obtain ⟨l0, hl0⟩ : ∃ l : List UInt8, [2] ++ [UInt8.ofNat s.size] = l := ⟨_, rfl⟩
    rw [hl0] at HP
    have HL0 : Hid (l0 = [2] ++ [UInt8.ofNat s.size] ++ s.data.toList.take 0) := hide (by rw [List.take_zero, List.append_nil]; exact hl0.symm)
    have hzl : l0.length = 2 + 0 := by rw [← hl0]; rfl
    clear hl0
    go_wp2
    clear c0 c1 c2 c3 c4
    go_loopw [9, 5] (fun t v wr => ∃ (i : Nat) (l : List UInt8), t = .int .i64 (i : Int) ∧ i ≤ s.size ∧ l.length = 2 + i ∧ Hid (PutAt w1 wr v l) ∧ Hid (l = [2] ++ [UInt8.ofNat s.size] ++ s.data.toList.take i)) (fun t _ _ => s.size - (intOf t).toNat)
    case atStart => exact ⟨0, l0, rfl, by omega, hzl, HP, HL0⟩
    case round =>
      clear HP HL0 hzl
      obtain ⟨i, l, rfl, hii, hl, HP, HL⟩ := hrel
      obtain ⟨c0, c1, c2, c3, c4⟩ := five_cells (five_below (unhide HF1) (unhide HP).bel (five_lt (unhide HF1)))
      by_cases hin : i < s.size
      · have HN : Hid (l ++ [s[i]] = [2] ++ [UInt8.ofNat s.size] ++ s.data.toList.take (i + 1)) := hide (by
          have := List.take_succ_eq_append_getElem (l := s.data.toList) (i := i) hin
          rw [this, ← List.append_assoc, ← unhide HL]
          rfl)
        clear HL
        go_wp2_with (first
          | (at_builtin; refine wpList_append_own _ rfl _ _ 81 rfl w1.heap.size 5 i0 (.int .u8 0) 1 1 Tryz.underlying81 hi hz0 hz1 hz2 rfl (by decide) _ _ _ rfl ((unhide HP).own.alloc _) ⟨wr.heap.size, 0, none⟩ 1 1 [.int .u8 ((s[i].toNat : Int))] rfl rfl (one_cell _ _ _) (oneB _) (by unfold maxLen; omega) (by omega) (by have := (unhide HP).bel.size; simp; omega) ?_)
          | go_in)
        · intro v' w2 hown' hgrow _
          have HP2 := hide (put_step s[i] rfl (unhide HP) (by rw [hl]; exact hown') hgrow)
          clear hown' hgrow c0 c1 c2 c3 c4
          go_wp2
          go_roundw
          case rel => exact ⟨i + 1, l ++ [s[i]], by go_num, by omega, by rw [List.length_append, List.length_singleton]; omega, HP2, HN⟩
          case measure => simp [intOf]; omega
      · have hcv := put_conv (unhide HP) (by omega)
        have E : Hid ((⟨(putL ⟨2, 0, s, false, 0⟩).toArray⟩ : ByteArray) = ⟨l.toArray⟩) := hide (by
          rw [unhide HL, List.take_of_length_le (by show s.size ≤ i; omega)]
          rfl)
        go_wp2
        go_ret2
        exact ⟨pair_put (unhide GX) (unhide E), below_nx (unhide HB) (unhide HP).bel⟩
end Go.Proofs.YteaodfeaidjcnaaGreatDoor

namespace Go.Proofs.YteaodfeaidjcnaaGreatDoor
open Go.RowKit

theorem byte_wrap8 (x : Int) (q : Nat) (h : x = (q : Int)) (hq : q < 18446744073709551616) : (IntKind.u64.wrap x).tmod 256 % 256 = ((UInt8.ofNat (q % 256)).toNat : Int) := by
  rw [UInt8.toNat_ofNat', h, IntKind.wrap_u64, show (q : Int) % 18446744073709551616 = (q : Int) by omega, Int.tmod_eq_emod_of_nonneg (by omega)]
  omega

set_option maxRecDepth 100000 in
set_option maxHeartbeats 2000000 in
theorem put_ref1 (w : World) (n : Int) (hn : goodB n = true) :
    Calls Tryz.prog 16 #[.agg (⟨1, n, noText, false, 0⟩ : Vl).cells] w fun e w' => e = .returned (.tuple #[.string (putV ⟨1, n, noText, false, 0⟩).1, .int .i64 (putV ⟨1, n, noText, false, 0⟩).2]) ∧ Below w.heap.size w w' := by
  have GX : Hid (vGood ⟨1, n, noText, false, 0⟩ = true) := hide (by rw [vGood1, hn, noText_list]; rfl)
  have HG : Hid (∀ w, Calls Tryz.prog 42 #[.agg (⟨1, n, noText, false, 0⟩ : Vl).cells] w fun e w' => e = .returned (.bool true) ∧ Below w.heap.size w w') := hide (fun w => by have h := good3_ref ⟨1, n, noText, false, 0⟩ w (by show noText.size ≤ _; decide); rw [unhide GX] at h; exact h)
  unfold Vl.cells at HG ⊢
  simp only [] at HG ⊢
  obtain ⟨i0, hi, hz0, hz1, hz2⟩ := info_parts info5
  go_enter Tryz.func16, Tryz.ntmps16
  go_wp2_with fail
  refine (unhide HG _).mono ?_
  rintro e w1 ⟨rfl, b1⟩
  have HF := hide (five_below (five_new w 29 (.int .i64 1) (.int .i64 n) (.string ⟨#[]⟩) (.bool false) (.int .i64 0)) b1 (by simp))
  have HB := hide (below_nx (below_al w (.cells #[.int .i64 1, .int .i64 n, .string ⟨#[]⟩, .bool false, .int .i64 0] 29)) b1)
  clear b1 HG
  have HF1 := HF
  obtain ⟨c0, c1, c2, c3, c4⟩ := five_cells (unhide HF)
  go_upto_region 5 with fail
  have HP := hide (put_start w1 1 1 rfl)
  replace HF := hide (five_below (unhide HF) (below_al w1 (.cells #[.int .u8 1] 5)) (five_lt (unhide HF)))
  clear c0 c1 c2 c3 c4
  generalize hW : w1.alloc (.cells #[.int .u8 1] 5) = W4 at HP HF ⊢
  clear hW
  obtain ⟨c0, c1, c2, c3, c4⟩ := five_cells (unhide HF)
  have hw := (u64N_eq n).1
  have HM := hide (u64N_eq n).2
  obtain ⟨m, hm⟩ : ∃ m, u64N n = m := ⟨_, rfl⟩
  have HMM := hide hm
  rw [hm] at hw HM
  clear hm
  go_wp2
  clear c0 c1 c2 c3 c4 HF hw
  go_loopw [7, 8, 5] (fun tp t v wr => ∃ (i : Nat) (l : List UInt8), t = .int .i64 (i : Int) ∧ i ≤ 8 ∧ tp = .int .u64 (pw8 i) ∧ Hid (l.length = 1 + i) ∧ Hid (PutAt w1 wr v l) ∧ Hid (l = [1] ++ (be8 m).take i)) (fun _ t _ _ => (8 - intOf t).toNat)
  case atStart => exact ⟨0, [1], rfl, by omega, rfl, hide rfl, HP, hide rfl⟩
  case round =>
    clear HP
    obtain ⟨i, l, rfl, hii, rfl, HLN, HP, HL⟩ := hrel
    have h8 : i = 0 ∨ i = 1 ∨ i = 2 ∨ i = 3 ∨ i = 4 ∨ i = 5 ∨ i = 6 ∨ i = 7 ∨ i = 8 := by omega
    clear hii
    rcases h8 with rfl | rfl | rfl | rfl | rfl | rfl | rfl | rfl | rfl
    · unfold pw8
      go_wp2_with (first
        | (at_builtin; refine wpList_append_own _ rfl _ _ 81 rfl w1.heap.size 5 i0 (.int .u8 0) 1 1 Tryz.underlying81 hi hz0 hz1 hz2 rfl (by decide) _ _ _ rfl ((unhide HP).own.alloc _) ⟨wr.heap.size, 0, none⟩ 1 1 [.int .u8 ((IntKind.u64.wrap ((m : Int) / 72057594037927936)).tmod 256 % 256)] rfl rfl (one_cell _ _ _) (oneB _) (by unfold maxLen; have := unhide HLN; omega) (by have := unhide HLN; omega) (by have := (unhide HP).bel.size; simp; omega) ?_)
        | go_in)
      · intro v' w2 hown' hgrow _
        have HP2 := hide (put_step (UInt8.ofNat (m / 72057594037927936 % 256)) (byte_wrap8 _ _ (by omega) (by have := unhide HM; omega)) (unhide HP) hown' hgrow)
        clear hown' hgrow
        go_wp2
        go_roundw
        case rel => exact ⟨1, l ++ [UInt8.ofNat (m / 72057594037927936 % 256)], rfl, by omega, rfl, hide (by rw [List.length_append, unhide HLN]; rfl), HP2, hide (by rw [unhide HL]; rfl)⟩
        case measure => decide
    · unfold pw8
      go_wp2_with (first
        | (at_builtin; refine wpList_append_own _ rfl _ _ 81 rfl w1.heap.size 5 i0 (.int .u8 0) 1 1 Tryz.underlying81 hi hz0 hz1 hz2 rfl (by decide) _ _ _ rfl ((unhide HP).own.alloc _) ⟨wr.heap.size, 0, none⟩ 1 1 [.int .u8 ((IntKind.u64.wrap ((m : Int) / 281474976710656)).tmod 256 % 256)] rfl rfl (one_cell _ _ _) (oneB _) (by unfold maxLen; have := unhide HLN; omega) (by have := unhide HLN; omega) (by have := (unhide HP).bel.size; simp; omega) ?_)
        | go_in)
      · intro v' w2 hown' hgrow _
        have HP2 := hide (put_step (UInt8.ofNat (m / 281474976710656 % 256)) (byte_wrap8 _ _ (by omega) (by have := unhide HM; omega)) (unhide HP) hown' hgrow)
        clear hown' hgrow
        go_wp2
        go_roundw
        case rel => exact ⟨2, l ++ [UInt8.ofNat (m / 281474976710656 % 256)], rfl, by omega, rfl, hide (by rw [List.length_append, unhide HLN]; rfl), HP2, hide (by rw [unhide HL]; rfl)⟩
        case measure => decide
    · unfold pw8
      go_wp2_with (first
        | (at_builtin; refine wpList_append_own _ rfl _ _ 81 rfl w1.heap.size 5 i0 (.int .u8 0) 1 1 Tryz.underlying81 hi hz0 hz1 hz2 rfl (by decide) _ _ _ rfl ((unhide HP).own.alloc _) ⟨wr.heap.size, 0, none⟩ 1 1 [.int .u8 ((IntKind.u64.wrap ((m : Int) / 1099511627776)).tmod 256 % 256)] rfl rfl (one_cell _ _ _) (oneB _) (by unfold maxLen; have := unhide HLN; omega) (by have := unhide HLN; omega) (by have := (unhide HP).bel.size; simp; omega) ?_)
        | go_in)
      · intro v' w2 hown' hgrow _
        have HP2 := hide (put_step (UInt8.ofNat (m / 1099511627776 % 256)) (byte_wrap8 _ _ (by omega) (by have := unhide HM; omega)) (unhide HP) hown' hgrow)
        clear hown' hgrow
        go_wp2
        go_roundw
        case rel => exact ⟨3, l ++ [UInt8.ofNat (m / 1099511627776 % 256)], rfl, by omega, rfl, hide (by rw [List.length_append, unhide HLN]; rfl), HP2, hide (by rw [unhide HL]; rfl)⟩
        case measure => decide
    · unfold pw8
      go_wp2_with (first
        | (at_builtin; refine wpList_append_own _ rfl _ _ 81 rfl w1.heap.size 5 i0 (.int .u8 0) 1 1 Tryz.underlying81 hi hz0 hz1 hz2 rfl (by decide) _ _ _ rfl ((unhide HP).own.alloc _) ⟨wr.heap.size, 0, none⟩ 1 1 [.int .u8 ((IntKind.u64.wrap ((m : Int) / 4294967296)).tmod 256 % 256)] rfl rfl (one_cell _ _ _) (oneB _) (by unfold maxLen; have := unhide HLN; omega) (by have := unhide HLN; omega) (by have := (unhide HP).bel.size; simp; omega) ?_)
        | go_in)
      · intro v' w2 hown' hgrow _
        have HP2 := hide (put_step (UInt8.ofNat (m / 4294967296 % 256)) (byte_wrap8 _ _ (by omega) (by have := unhide HM; omega)) (unhide HP) hown' hgrow)
        clear hown' hgrow
        go_wp2
        go_roundw
        case rel => exact ⟨4, l ++ [UInt8.ofNat (m / 4294967296 % 256)], rfl, by omega, rfl, hide (by rw [List.length_append, unhide HLN]; rfl), HP2, hide (by rw [unhide HL]; rfl)⟩
        case measure => decide
    · unfold pw8
      go_wp2_with (first
        | (at_builtin; refine wpList_append_own _ rfl _ _ 81 rfl w1.heap.size 5 i0 (.int .u8 0) 1 1 Tryz.underlying81 hi hz0 hz1 hz2 rfl (by decide) _ _ _ rfl ((unhide HP).own.alloc _) ⟨wr.heap.size, 0, none⟩ 1 1 [.int .u8 ((IntKind.u64.wrap ((m : Int) / 16777216)).tmod 256 % 256)] rfl rfl (one_cell _ _ _) (oneB _) (by unfold maxLen; have := unhide HLN; omega) (by have := unhide HLN; omega) (by have := (unhide HP).bel.size; simp; omega) ?_)
        | go_in)
      · intro v' w2 hown' hgrow _
        have HP2 := hide (put_step (UInt8.ofNat (m / 16777216 % 256)) (byte_wrap8 _ _ (by omega) (by have := unhide HM; omega)) (unhide HP) hown' hgrow)
        clear hown' hgrow
        go_wp2
        go_roundw
        case rel => exact ⟨5, l ++ [UInt8.ofNat (m / 16777216 % 256)], rfl, by omega, rfl, hide (by rw [List.length_append, unhide HLN]; rfl), HP2, hide (by rw [unhide HL]; rfl)⟩
        case measure => decide
    · unfold pw8
      go_wp2_with (first
        | (at_builtin; refine wpList_append_own _ rfl _ _ 81 rfl w1.heap.size 5 i0 (.int .u8 0) 1 1 Tryz.underlying81 hi hz0 hz1 hz2 rfl (by decide) _ _ _ rfl ((unhide HP).own.alloc _) ⟨wr.heap.size, 0, none⟩ 1 1 [.int .u8 ((IntKind.u64.wrap ((m : Int) / 65536)).tmod 256 % 256)] rfl rfl (one_cell _ _ _) (oneB _) (by unfold maxLen; have := unhide HLN; omega) (by have := unhide HLN; omega) (by have := (unhide HP).bel.size; simp; omega) ?_)
        | go_in)
      · intro v' w2 hown' hgrow _
        have HP2 := hide (put_step (UInt8.ofNat (m / 65536 % 256)) (byte_wrap8 _ _ (by omega) (by have := unhide HM; omega)) (unhide HP) hown' hgrow)
        clear hown' hgrow
        go_wp2
        go_roundw
        case rel => exact ⟨6, l ++ [UInt8.ofNat (m / 65536 % 256)], rfl, by omega, rfl, hide (by rw [List.length_append, unhide HLN]; rfl), HP2, hide (by rw [unhide HL]; rfl)⟩
        case measure => decide
    · unfold pw8
      go_wp2_with (first
        | (at_builtin; refine wpList_append_own _ rfl _ _ 81 rfl w1.heap.size 5 i0 (.int .u8 0) 1 1 Tryz.underlying81 hi hz0 hz1 hz2 rfl (by decide) _ _ _ rfl ((unhide HP).own.alloc _) ⟨wr.heap.size, 0, none⟩ 1 1 [.int .u8 ((IntKind.u64.wrap ((m : Int) / 256)).tmod 256 % 256)] rfl rfl (one_cell _ _ _) (oneB _) (by unfold maxLen; have := unhide HLN; omega) (by have := unhide HLN; omega) (by have := (unhide HP).bel.size; simp; omega) ?_)
        | go_in)
      · intro v' w2 hown' hgrow _
        have HP2 := hide (put_step (UInt8.ofNat (m / 256 % 256)) (byte_wrap8 _ _ (by omega) (by have := unhide HM; omega)) (unhide HP) hown' hgrow)
        clear hown' hgrow
        go_wp2
        go_roundw
        case rel => exact ⟨7, l ++ [UInt8.ofNat (m / 256 % 256)], rfl, by omega, rfl, hide (by rw [List.length_append, unhide HLN]; rfl), HP2, hide (by rw [unhide HL]; rfl)⟩
        case measure => decide
    · unfold pw8
      go_wp2_with (first
        | (at_builtin; refine wpList_append_own _ rfl _ _ 81 rfl w1.heap.size 5 i0 (.int .u8 0) 1 1 Tryz.underlying81 hi hz0 hz1 hz2 rfl (by decide) _ _ _ rfl ((unhide HP).own.alloc _) ⟨wr.heap.size, 0, none⟩ 1 1 [.int .u8 ((IntKind.u64.wrap (m : Int)).tmod 256 % 256)] rfl rfl (one_cell _ _ _) (oneB _) (by unfold maxLen; have := unhide HLN; omega) (by have := unhide HLN; omega) (by have := (unhide HP).bel.size; simp; omega) ?_)
        | go_in)
      · intro v' w2 hown' hgrow _
        have HP2 := hide (put_step (UInt8.ofNat (m % 256)) (byte_wrap8 _ _ (by omega) (by have := unhide HM; omega)) (unhide HP) hown' hgrow)
        clear hown' hgrow
        go_wp2
        go_roundw
        case rel => exact ⟨8, l ++ [UInt8.ofNat (m % 256)], rfl, by omega, rfl, hide (by rw [List.length_append, unhide HLN]; rfl), HP2, hide (by rw [unhide HL]; rfl)⟩
        case measure => decide
    · have hcv := put_conv (unhide HP) (by have := unhide HLN; omega)
      have E : Hid ((⟨(putL ⟨1, n, noText, false, 0⟩).toArray⟩ : ByteArray) = ⟨l.toArray⟩) := hide (by
        rw [unhide HL]
        show (⟨((1 : UInt8) :: be8 (u64N n)).toArray⟩ : ByteArray) = _
        rw [unhide HMM]
        rfl)
      unfold pw8
      go_wp2
      go_ret2
      exact ⟨pair_put (unhide GX) (unhide E), below_nx (unhide HB) (unhide HP).bel⟩

theorem put_ref (v : Vl) (w : World) (hs : v.text.size ≤ 1000000) :
    Calls Tryz.prog 16 #[.agg v.cells] w fun e w' => e = .returned (.tuple #[.string (putV v).1, .int .i64 (putV v).2]) ∧ Below w.heap.size w w' := by
  cases hg : vGood v
  · exact put_ref_bad v w hs hg
  · rcases good_form v hg with rfl | ⟨n, hn, rfl⟩ | ⟨s, h2, rfl⟩ | ⟨b, rfl⟩ | ⟨f, h1, h8, rfl⟩
    · exact put_ref0 w
    · exact put_ref1 w n hn
    · exact put_ref2 w s h2
    · cases b
      · exact put_ref3f w
      · exact put_ref3t w
    · exact put_ref4 w f h1 h8
end Go.Proofs.YteaodfeaidjcnaaGreatDoor
