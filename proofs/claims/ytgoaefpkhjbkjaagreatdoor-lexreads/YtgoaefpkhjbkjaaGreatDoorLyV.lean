/- Rows of bytes of one's own; the contract of the reference's Quoted. -/
import Derived.Test.YtgoaefpkhjbkjaaGreatDoorLxE
import Derived.Test.YtgoaefpkhjbkjaaGreatDoorRfB
import Derived.Laws.OwnMore
import Derived.Deep.AppendLies
import Derived.Laws.IdiomStrings
import Derived.Test.YtgoaefpkhjbkjaaGreatDoorAdU
import Derived.Test.YtgoaefpkhjbkjaaGreatDoorRfT
import Derived.Test.YtgoaefpkhjbkjaaGreatDoorVrZ
namespace Go.Proofs.YtgoaefpkhjbkjaaGreatDoor
open Go.RowKit

theorem info5b : (Tryz.prog.info? 5).map (fun i => (i.zero, i.size, i.bytes)) = some (some (.int .u8 0), 1, 1) := by kernel_rfl
theorem byte_parts {P : Program} {t : TypeId} {z : Value} (h : (P.info? t).map (fun i => (i.zero, i.size, i.bytes)) = some (some z, 1, 1)) : ∃ i, P.info? t = some i ∧ i.zero = some z ∧ i.size = 1 ∧ i.bytes = 1 := by
  cases hi : P.info? t with
  | none => rw [hi] at h; cases h
  | some i =>
    rw [hi] at h
    simp only [Option.map_some, Option.some.injEq, Prod.mk.injEq] at h
    exact ⟨i, rfl, h.1, h.2.1, h.2.2⟩
def byV (c : UInt8) : Value := .int .u8 (c.toNat : Int)
/-- A row of bytes of one's own. -/
def ByRow (B : Nat) (wr : World) (v : Value) (l : List UInt8) : Prop := wr.ownsRow B 5 1 v l.length (l.map byV)
theorem by_one (x : Int) : ∀ u ∈ [Value.int .u8 x], u.oneCell' = true := by
  intro u hu
  simp at hu
  subst hu
  rfl
theorem by_start (w1 : World) (x : Int) (c : UInt8) (h : x = (c.toNat : Int)) : ByRow w1.heap.size (w1.alloc (.cells #[.int .u8 x] 5)) (.slice (some ⟨w1.heap.size, 0, none⟩) 1 1) [c] := by
  subst h
  exact World.ownsRow_lit w1 #[byV c] 1 (Nat.le_refl _) (by decide) rfl
theorem by_step {B : Nat} {w wr w2 : World} {v v' : Value} {l : List UInt8} {x : Int} {o : Obj} (c : UInt8) (hx : x = (c.toNat : Int)) (hb : Below w.heap.size w wr) (hB : w.heap.size ≤ B) (h : ByRow B wr v l)
    (hown' : w2.ownsRow B 5 1 v' (l.length + 1) (l.map byV ++ [.int .u8 x])) (hgrow : (wr.alloc o).grownBy w2 v.ownBlock) : ByRow B w2 v' (l ++ [c]) ∧ Below w.heap.size w w2 := by
  subst hx
  refine ⟨?_, (hb.alloc hb.size o).grown hgrow (by have := hb.size; simp; omega) ?_⟩
  · unfold ByRow
    rw [List.length_append, List.map_append]; exact hown'
  · intro j hj
    rcases h.2 with ⟨rfl, _⟩ | ⟨g, cap, cur, rfl, hg, _⟩
    · cases hj
    · simp [Value.ownBlock] at hj; omega
/-- A block below the row's is as it was. -/
theorem by_far {B g : Nat} {wr w2 : World} {v : Value} {l : List UInt8} {o : Obj} {t : TypeId} {cs : Array Value} (h : ByRow B wr v l) (hgrow : (wr.alloc o).grownBy w2 v.ownBlock) (hg : g < B) (hc : CellsAt wr g t cs) : CellsAt w2 g t cs := by
  have h1 := cells_al hc o
  unfold CellsAt at h1 ⊢
  rw [hgrow.block g (cells_lt h1), h1]
  rcases h.2 with ⟨rfl, _⟩ | ⟨g', cap, cur, rfl, hg', _⟩
  · simp [Value.ownBlock]
  · simp [Value.ownBlock]; omega
theorem by_conv {B : Nat} {wr : World} {v : Value} {l : List UInt8} (h : ByRow B wr v l) : (convert 56 9 v).run Tryz.prog wr = .ok (.string ⟨l.toArray⟩) wr := by
  by_cases hl : 0 < l.length
  · obtain ⟨g, cap, rfl, hg, _⟩ := World.ownsRow.form h hl
    exact run_convert_bytes_back (P := Tryz.prog) wr 56 9 5 ⟨g, 0, none⟩ cap l Tryz.underlying56 Tryz.underlying5 Tryz.underlying9 (fun j hj => by
      have hadd : (⟨g, 0, none⟩ : Addr).add j = ⟨g, j, none⟩ := by unfold Addr.add; split <;> simp_all
      rw [hadd, World.ownsRow.cellAt h j (by omega), List.getElem?_map, List.getElem?_eq_getElem hj]
      rfl)
  · have e : l = [] := List.eq_nil_of_length_eq_zero (by omega)
    subst e
    rcases h.2 with ⟨rfl, _⟩ | ⟨g, cap, cur, rfl, hg, _⟩
    · rw [run_convert_bytes_string (P := Tryz.prog) wr 56 9 5 none 0 0 Tryz.underlying56 Tryz.underlying5 Tryz.underlying9]
      rfl
    · exact run_convert_bytes_back (P := Tryz.prog) wr 56 9 5 ⟨g, 0, none⟩ cap [] Tryz.underlying56 Tryz.underlying5 Tryz.underlying9 (fun j hj => by simp at hj)
theorem by_form {B : Nat} {wr : World} {v : Value} {l : List UInt8} (h : ByRow B wr v l) : ∃ a cap, v = .slice a l.length cap := by
  rcases h.2 with ⟨rfl, h0⟩ | ⟨g, cap, cur, rfl, _⟩
  · exact ⟨none, 0, by rw [h0]⟩
  · exact ⟨_, cap, rfl⟩
theorem dbl_snoc (l : List UInt8) (c : UInt8) : dblL (l ++ [c]) = dblL l ++ (if c = 34 then [34, 34] else [c]) := by
  induction l with
  | nil =>
    rw [List.nil_append, dblL, dblL]
    split <;> simp [dblL]
  | cons d l ih =>
    rw [List.cons_append, dblL, dblL, ih]
    split <;> simp
def qd (l : List UInt8) (k : Nat) : List UInt8 := 34 :: dblL (l.take k)
theorem qd_len (l : List UInt8) (k : Nat) : (qd l k).length ≤ 2 * l.length + 1 := by
  unfold qd
  have h : ∀ m : List UInt8, (dblL m).length ≤ 2 * m.length := by
    intro m
    induction m with
    | nil => exact Nat.le_refl _
    | cons c m ih =>
      rw [dblL]
      split
      · simp only [List.length_cons]; omega
      · simp only [List.length_cons]; omega
  have := h (l.take k)
  rw [List.length_take] at this
  rw [List.length_cons]; omega
set_option maxRecDepth 100000 in
set_option maxHeartbeats 4000000 in
theorem quoted5_ref (s : ByteArray) (w : World) (hs : s.size ≤ 1000) :
    Calls Tryz.prog 26 #[.string s] w fun e w' => e = .returned (.string ⟨(34 :: (dblL s.data.toList ++ [34])).toArray⟩) ∧ Below w.heap.size w w' := by
  obtain ⟨i0, hi, hz0, hz1, hz2⟩ := byte_parts info5b
  have hsz : s.data.toList.length = s.size := rfl
  have HS := hide hsz
  clear hsz
  go_enter Tryz.func26, Tryz.ntmps26
  go_upto_region 2 with fail
  have HO := hide (by_start w 34 34 rfl)
  have HB : Hid (Below w.heap.size w (w.alloc (.cells #[.int .u8 34] 5))) := hide (below_al _ _)
  generalize hW : w.alloc (.cells #[.int .u8 34] 5) = W0 at HO HB ⊢
  clear hW
  go_wp2
  go_loopw [3, 4] (fun v i wr => ∃ k : Nat, k ≤ s.size ∧ i = .int .i64 (k : Int) ∧ Hid (ByRow w.heap.size wr v (qd s.data.toList k)) ∧ Hid (Below w.heap.size w wr)) (fun _ i _ => s.size - (intOf i).toNat)
  case atStart => exact ⟨0, Nat.zero_le _, rfl, HO, HB⟩
  case round =>
    clear HO HB
    obtain ⟨k, hk, rfl, HO, HB⟩ := hrel
    have hql := qd_len s.data.toList k
    rw [unhide HS] at hql
    by_cases hlt : k < s.size
    · have hq := byte_eq s[k] 34
      rw [show ((34 : UInt8).toNat : Int) = 34 from rfl] at hq
      have HTK := hide (take_snoc4 s k hlt)
      cases h34 : ((s[k].toNat : Int) == 34)
      · rw [h34] at hq
        have HQ' : Hid (qd s.data.toList (k + 1) = qd s.data.toList k ++ [s[k]]) := hide (by
          have : s[k] ≠ 34 := by simpa using hq
          unfold qd
          rw [unhide HTK, dbl_snoc, if_neg this]; rfl)
        clear hq
        go_wp2_with (first
          | (at_builtin; refine wpList_append_own _ rfl _ _ 56 rfl w.heap.size 5 i0 (.int .u8 0) 1 1 Tryz.underlying56 hi hz0 hz1 hz2 rfl (by decide) _ _ _ rfl ((unhide HO).alloc _) ⟨wr.heap.size, 0, none⟩ 1 1 [.int .u8 (s[k].toNat : Int)] rfl rfl (one_cell _ _ _) (by_one _) (by unfold maxLen; omega) (by omega) (by have := (unhide HB).size; simp; omega) ?_)
          | go_in)
        intro v' w1 hown' hgrow _
        have R := hide (by_step s[k] rfl (unhide HB) (Nat.le_refl _) (unhide HO) hown' hgrow)
        rw [← unhide HQ'] at R
        clear hown' hgrow
        go_wp2
        go_roundw
        case rel => exact ⟨k + 1, by omega, by go_num, hide (unhide R).1, hide (unhide R).2⟩
        case measure => simp [intOf]; omega
      · rw [h34] at hq
        have e34 : s[k] = 34 := by simpa using hq
        have HQ' : Hid (qd s.data.toList (k + 1) = (qd s.data.toList k ++ [s[k]]) ++ [34]) := hide (by
          unfold qd
          rw [unhide HTK, dbl_snoc, if_pos e34, e34]; simp)
        clear hq e34
        go_wp2_with (first
          | (at_builtin; refine wpList_append_own _ rfl _ _ 56 rfl w.heap.size 5 i0 (.int .u8 0) 1 1 Tryz.underlying56 hi hz0 hz1 hz2 rfl (by decide) _ _ _ rfl ((unhide HO).alloc _) ⟨wr.heap.size, 0, none⟩ 1 1 [.int .u8 (s[k].toNat : Int)] rfl rfl (one_cell _ _ _) (by_one _) (by unfold maxLen; omega) (by omega) (by have := (unhide HB).size; simp; omega) ?_)
          | go_in)
        intro v' w1 hown' hgrow _
        have R := hide (by_step s[k] rfl (unhide HB) (Nat.le_refl _) (unhide HO) hown' hgrow)
        clear hown' hgrow HO HB
        have HO := hide (unhide R).1
        have HB := hide (unhide R).2
        clear R
        have hql2 : (qd s.data.toList k ++ [s[k]]).length ≤ 2 * s.size + 2 := by rw [List.length_append, List.length_singleton]; omega
        generalize qd s.data.toList k ++ [s[k]] = q2 at HO hql2 HQ'
        go_wp2_with (first
          | (at_builtin; refine wpList_append_own _ rfl _ _ 56 rfl w.heap.size 5 i0 (.int .u8 0) 1 1 Tryz.underlying56 hi hz0 hz1 hz2 rfl (by decide) _ _ _ rfl ((unhide HO).alloc _) ⟨w1.heap.size, 0, none⟩ 1 1 [.int .u8 34] rfl rfl (one_cell _ _ _) (by_one _) (by unfold maxLen; omega) (by omega) (by have := (unhide HB).size; simp; omega) ?_)
          | go_in)
        intro v2 w2 hown' hgrow _
        have R := hide (by_step 34 rfl (unhide HB) (Nat.le_refl _) (unhide HO) hown' hgrow)
        rw [← unhide HQ'] at R
        clear hown' hgrow
        go_wp2
        go_roundw
        case rel => exact ⟨k + 1, by omega, by go_num, hide (unhide R).1, hide (unhide R).2⟩
        case measure => simp [intOf]; omega
    · have ek : s.data.toList.take k = s.data.toList := List.take_of_length_le (by rw [unhide HS]; omega)
      have EK := hide ek
      clear ek
      go_wp2_with (first
        | (at_builtin; refine wpList_append_own _ rfl _ _ 56 rfl w.heap.size 5 i0 (.int .u8 0) 1 1 Tryz.underlying56 hi hz0 hz1 hz2 rfl (by decide) _ _ _ rfl ((unhide HO).alloc _) ⟨wr.heap.size, 0, none⟩ 1 1 [.int .u8 34] rfl rfl (one_cell _ _ _) (by_one _) (by unfold maxLen; omega) (by omega) (by have := (unhide HB).size; simp; omega) ?_)
        | go_in)
      intro v2 w2 hown' hgrow _
      have R := hide (by_step 34 rfl (unhide HB) (Nat.le_refl _) (unhide HO) hown' hgrow)
      clear hown' hgrow
      have cv := by_conv (unhide R).1
      go_wp2
      go_ret
      refine ⟨?_, (unhide R).2⟩
      unfold qd
      rw [unhide EK]
      rfl
end Go.Proofs.YtgoaefpkhjbkjaaGreatDoor

namespace Go.Proofs.YtgoaefpkhjbkjaaGreatDoor
open Go.RowKit

set_option maxRecDepth 100000 in
set_option maxHeartbeats 2000000 in
theorem sh_numr (tx bk sh : ByteArray) (nm fl c1 r1 c2 r2 pl : Int) (f1 g1 f2 g2 wd : Bool) (w : World) (tb : ByteArray) (HK : Hid (∀ w : World, Calls Tryz.prog 25 #[.int .i64 nm] w fun e w' => e = .returned (.string tb) ∧ Below w.heap.size w w')) :
    Calls Tryz.prog 15 #[.agg #[.int .i64 0, .string tx, .int .i64 nm, .int .i64 fl, .string bk, .string sh, .int .i64 c1, .int .i64 r1, .bool f1, .bool g1, .int .i64 c2, .int .i64 r2, .bool f2, .bool g2, .bool wd, .int .i64 pl]] w fun e w' => e = .returned (.string tb) ∧ Below w.heap.size w w' := by
  go_enter Tryz.func15, Tryz.ntmps15
  go_upto_region 1 with fail
  have R := hide (cells_new w 47 #[.int .i64 0, .string tx, .int .i64 nm, .int .i64 fl, .string bk, .string sh, .int .i64 c1, .int .i64 r1, .bool f1, .bool g1, .int .i64 c2, .int .i64 r2, .bool f2, .bool g2, .bool wd, .int .i64 pl])
  have HB : Hid (Below w.heap.size w (w.alloc (.cells #[.int .i64 0, .string tx, .int .i64 nm, .int .i64 fl, .string bk, .string sh, .int .i64 c1, .int .i64 r1, .bool f1, .bool g1, .int .i64 c2, .int .i64 r2, .bool f2, .bool g2, .bool wd, .int .i64 pl] 47))) := hide (below_al _ _)
  generalize hW : w.alloc (.cells #[.int .i64 0, .string tx, .int .i64 nm, .int .i64 fl, .string bk, .string sh, .int .i64 c1, .int .i64 r1, .bool f1, .bool g1, .int .i64 c2, .int .i64 r2, .bool f2, .bool g2, .bool wd, .int .i64 pl] 47) = W0 at R HB ⊢
  clear hW
  obtain ⟨r_0, r_1, r_2, r_3, r_4, r_5, r_6, r_7, r_8, r_9, r_10, r_11, r_12, r_13, r_14, r_15⟩ := cells16 (unhide R)
  go_wp2_with fail
  refine (unhide HK _).mono ?_
  rintro e wk1 ⟨rfl, bk1⟩
  replace R := hide (cells_nx (unhide R) bk1)
  replace HB := hide (below_nx (unhide HB) bk1)
  clear bk1
  clear r_0 r_1 r_2 r_3 r_4 r_5 r_6 r_7 r_8 r_9 r_10 r_11 r_12 r_13 r_14 r_15
  go_wp2
  go_ret
  exact ⟨rfl, unhide HB⟩
set_option maxRecDepth 100000 in
set_option maxHeartbeats 2000000 in
theorem sh_textr (tx bk sh : ByteArray) (nm fl c1 r1 c2 r2 pl : Int) (f1 g1 f2 g2 wd : Bool) (w : World) (tb : ByteArray) (HK : Hid (∀ w : World, Calls Tryz.prog 26 #[.string tx] w fun e w' => e = .returned (.string tb) ∧ Below w.heap.size w w')) :
    Calls Tryz.prog 15 #[.agg #[.int .i64 1, .string tx, .int .i64 nm, .int .i64 fl, .string bk, .string sh, .int .i64 c1, .int .i64 r1, .bool f1, .bool g1, .int .i64 c2, .int .i64 r2, .bool f2, .bool g2, .bool wd, .int .i64 pl]] w fun e w' => e = .returned (.string tb) ∧ Below w.heap.size w w' := by
  go_enter Tryz.func15, Tryz.ntmps15
  go_upto_region 1 with fail
  have R := hide (cells_new w 47 #[.int .i64 1, .string tx, .int .i64 nm, .int .i64 fl, .string bk, .string sh, .int .i64 c1, .int .i64 r1, .bool f1, .bool g1, .int .i64 c2, .int .i64 r2, .bool f2, .bool g2, .bool wd, .int .i64 pl])
  have HB : Hid (Below w.heap.size w (w.alloc (.cells #[.int .i64 1, .string tx, .int .i64 nm, .int .i64 fl, .string bk, .string sh, .int .i64 c1, .int .i64 r1, .bool f1, .bool g1, .int .i64 c2, .int .i64 r2, .bool f2, .bool g2, .bool wd, .int .i64 pl] 47))) := hide (below_al _ _)
  generalize hW : w.alloc (.cells #[.int .i64 1, .string tx, .int .i64 nm, .int .i64 fl, .string bk, .string sh, .int .i64 c1, .int .i64 r1, .bool f1, .bool g1, .int .i64 c2, .int .i64 r2, .bool f2, .bool g2, .bool wd, .int .i64 pl] 47) = W0 at R HB ⊢
  clear hW
  obtain ⟨r_0, r_1, r_2, r_3, r_4, r_5, r_6, r_7, r_8, r_9, r_10, r_11, r_12, r_13, r_14, r_15⟩ := cells16 (unhide R)
  go_wp2_with fail
  refine (unhide HK _).mono ?_
  rintro e wk1 ⟨rfl, bk1⟩
  replace R := hide (cells_nx (unhide R) bk1)
  replace HB := hide (below_nx (unhide HB) bk1)
  clear bk1
  clear r_0 r_1 r_2 r_3 r_4 r_5 r_6 r_7 r_8 r_9 r_10 r_11 r_12 r_13 r_14 r_15
  go_wp2
  go_ret
  exact ⟨rfl, unhide HB⟩
set_option maxRecDepth 100000 in
set_option maxHeartbeats 2000000 in
theorem sh_failr (tx bk sh : ByteArray) (nm fl c1 r1 c2 r2 pl : Int) (f1 g1 f2 g2 wd : Bool) (w : World) (tb : ByteArray) (HK : Hid (∀ w : World, Calls Tryz.prog 27 #[.int .i64 fl] w fun e w' => e = .returned (.string tb) ∧ Below w.heap.size w w')) :
    Calls Tryz.prog 15 #[.agg #[.int .i64 2, .string tx, .int .i64 nm, .int .i64 fl, .string bk, .string sh, .int .i64 c1, .int .i64 r1, .bool f1, .bool g1, .int .i64 c2, .int .i64 r2, .bool f2, .bool g2, .bool wd, .int .i64 pl]] w fun e w' => e = .returned (.string tb) ∧ Below w.heap.size w w' := by
  go_enter Tryz.func15, Tryz.ntmps15
  go_upto_region 1 with fail
  have R := hide (cells_new w 47 #[.int .i64 2, .string tx, .int .i64 nm, .int .i64 fl, .string bk, .string sh, .int .i64 c1, .int .i64 r1, .bool f1, .bool g1, .int .i64 c2, .int .i64 r2, .bool f2, .bool g2, .bool wd, .int .i64 pl])
  have HB : Hid (Below w.heap.size w (w.alloc (.cells #[.int .i64 2, .string tx, .int .i64 nm, .int .i64 fl, .string bk, .string sh, .int .i64 c1, .int .i64 r1, .bool f1, .bool g1, .int .i64 c2, .int .i64 r2, .bool f2, .bool g2, .bool wd, .int .i64 pl] 47))) := hide (below_al _ _)
  generalize hW : w.alloc (.cells #[.int .i64 2, .string tx, .int .i64 nm, .int .i64 fl, .string bk, .string sh, .int .i64 c1, .int .i64 r1, .bool f1, .bool g1, .int .i64 c2, .int .i64 r2, .bool f2, .bool g2, .bool wd, .int .i64 pl] 47) = W0 at R HB ⊢
  clear hW
  obtain ⟨r_0, r_1, r_2, r_3, r_4, r_5, r_6, r_7, r_8, r_9, r_10, r_11, r_12, r_13, r_14, r_15⟩ := cells16 (unhide R)
  go_wp2_with fail
  refine (unhide HK _).mono ?_
  rintro e wk1 ⟨rfl, bk1⟩
  replace R := hide (cells_nx (unhide R) bk1)
  replace HB := hide (below_nx (unhide HB) bk1)
  clear bk1
  clear r_0 r_1 r_2 r_3 r_4 r_5 r_6 r_7 r_8 r_9 r_10 r_11 r_12 r_13 r_14 r_15
  go_wp2
  go_ret
  exact ⟨rfl, unhide HB⟩
set_option maxRecDepth 100000 in
set_option maxHeartbeats 2000000 in
theorem sh_refr (tx bk sh : ByteArray) (nm fl c1 r1 c2 r2 pl : Int) (f1 g1 f2 g2 wd : Bool) (w : World) (tb : ByteArray) (HK : Hid (∀ w : World, Calls Tryz.prog 28 #[.agg #[.string bk, .string sh, .int .i64 c1, .int .i64 r1, .bool f1, .bool g1, .int .i64 c2, .int .i64 r2, .bool f2, .bool g2, .bool wd]] w fun e w' => e = .returned (.string tb) ∧ Below w.heap.size w w')) :
    Calls Tryz.prog 15 #[.agg #[.int .i64 3, .string tx, .int .i64 nm, .int .i64 fl, .string bk, .string sh, .int .i64 c1, .int .i64 r1, .bool f1, .bool g1, .int .i64 c2, .int .i64 r2, .bool f2, .bool g2, .bool wd, .int .i64 pl]] w fun e w' => e = .returned (.string tb) ∧ Below w.heap.size w w' := by
  go_enter Tryz.func15, Tryz.ntmps15
  go_upto_region 1 with fail
  have R := hide (cells_new w 47 #[.int .i64 3, .string tx, .int .i64 nm, .int .i64 fl, .string bk, .string sh, .int .i64 c1, .int .i64 r1, .bool f1, .bool g1, .int .i64 c2, .int .i64 r2, .bool f2, .bool g2, .bool wd, .int .i64 pl])
  have HB : Hid (Below w.heap.size w (w.alloc (.cells #[.int .i64 3, .string tx, .int .i64 nm, .int .i64 fl, .string bk, .string sh, .int .i64 c1, .int .i64 r1, .bool f1, .bool g1, .int .i64 c2, .int .i64 r2, .bool f2, .bool g2, .bool wd, .int .i64 pl] 47))) := hide (below_al _ _)
  generalize hW : w.alloc (.cells #[.int .i64 3, .string tx, .int .i64 nm, .int .i64 fl, .string bk, .string sh, .int .i64 c1, .int .i64 r1, .bool f1, .bool g1, .int .i64 c2, .int .i64 r2, .bool f2, .bool g2, .bool wd, .int .i64 pl] 47) = W0 at R HB ⊢
  clear hW
  obtain ⟨r_0, r_1, r_2, r_3, r_4, r_5, r_6, r_7, r_8, r_9, r_10, r_11, r_12, r_13, r_14, r_15⟩ := cells16 (unhide R)
  go_wp2_with fail
  refine (unhide HK _).mono ?_
  rintro e wk1 ⟨rfl, bk1⟩
  replace R := hide (cells_nx (unhide R) bk1)
  replace HB := hide (below_nx (unhide HB) bk1)
  clear bk1
  clear r_0 r_1 r_2 r_3 r_4 r_5 r_6 r_7 r_8 r_9 r_10 r_11 r_12 r_13 r_14 r_15
  go_wp2
  go_ret
  exact ⟨rfl, unhide HB⟩
set_option maxRecDepth 100000 in
set_option maxHeartbeats 2000000 in
theorem sh_wordr (tx bk sh : ByteArray) (nm fl c1 r1 c2 r2 pl : Int) (f1 g1 f2 g2 wd : Bool) (w : World) :
    Calls Tryz.prog 15 #[.agg #[.int .i64 4, .string tx, .int .i64 nm, .int .i64 fl, .string bk, .string sh, .int .i64 c1, .int .i64 r1, .bool f1, .bool g1, .int .i64 c2, .int .i64 r2, .bool f2, .bool g2, .bool wd, .int .i64 pl]] w fun e w' => e = .returned (.string tx) ∧ Below w.heap.size w w' := by
  go_enter Tryz.func15, Tryz.ntmps15
  go_upto_region 1 with fail
  have R := hide (cells_new w 47 #[.int .i64 4, .string tx, .int .i64 nm, .int .i64 fl, .string bk, .string sh, .int .i64 c1, .int .i64 r1, .bool f1, .bool g1, .int .i64 c2, .int .i64 r2, .bool f2, .bool g2, .bool wd, .int .i64 pl])
  have HB : Hid (Below w.heap.size w (w.alloc (.cells #[.int .i64 4, .string tx, .int .i64 nm, .int .i64 fl, .string bk, .string sh, .int .i64 c1, .int .i64 r1, .bool f1, .bool g1, .int .i64 c2, .int .i64 r2, .bool f2, .bool g2, .bool wd, .int .i64 pl] 47))) := hide (below_al _ _)
  generalize hW : w.alloc (.cells #[.int .i64 4, .string tx, .int .i64 nm, .int .i64 fl, .string bk, .string sh, .int .i64 c1, .int .i64 r1, .bool f1, .bool g1, .int .i64 c2, .int .i64 r2, .bool f2, .bool g2, .bool wd, .int .i64 pl] 47) = W0 at R HB ⊢
  clear hW
  obtain ⟨r_0, r_1, r_2, r_3, r_4, r_5, r_6, r_7, r_8, r_9, r_10, r_11, r_12, r_13, r_14, r_15⟩ := cells16 (unhide R)
  go_wp2
  go_ret
  exact ⟨rfl, unhide HB⟩
set_option maxRecDepth 100000 in
set_option maxHeartbeats 2000000 in
theorem sh_opr (tx bk sh : ByteArray) (nm fl c1 r1 c2 r2 pl : Int) (f1 g1 f2 g2 wd : Bool) (w : World) :
    Calls Tryz.prog 15 #[.agg #[.int .i64 5, .string tx, .int .i64 nm, .int .i64 fl, .string bk, .string sh, .int .i64 c1, .int .i64 r1, .bool f1, .bool g1, .int .i64 c2, .int .i64 r2, .bool f2, .bool g2, .bool wd, .int .i64 pl]] w fun e w' => e = .returned (.string tx) ∧ Below w.heap.size w w' := by
  go_enter Tryz.func15, Tryz.ntmps15
  go_upto_region 1 with fail
  have R := hide (cells_new w 47 #[.int .i64 5, .string tx, .int .i64 nm, .int .i64 fl, .string bk, .string sh, .int .i64 c1, .int .i64 r1, .bool f1, .bool g1, .int .i64 c2, .int .i64 r2, .bool f2, .bool g2, .bool wd, .int .i64 pl])
  have HB : Hid (Below w.heap.size w (w.alloc (.cells #[.int .i64 5, .string tx, .int .i64 nm, .int .i64 fl, .string bk, .string sh, .int .i64 c1, .int .i64 r1, .bool f1, .bool g1, .int .i64 c2, .int .i64 r2, .bool f2, .bool g2, .bool wd, .int .i64 pl] 47))) := hide (below_al _ _)
  generalize hW : w.alloc (.cells #[.int .i64 5, .string tx, .int .i64 nm, .int .i64 fl, .string bk, .string sh, .int .i64 c1, .int .i64 r1, .bool f1, .bool g1, .int .i64 c2, .int .i64 r2, .bool f2, .bool g2, .bool wd, .int .i64 pl] 47) = W0 at R HB ⊢
  clear hW
  obtain ⟨r_0, r_1, r_2, r_3, r_4, r_5, r_6, r_7, r_8, r_9, r_10, r_11, r_12, r_13, r_14, r_15⟩ := cells16 (unhide R)
  go_wp2
  go_ret
  exact ⟨rfl, unhide HB⟩
set_option maxRecDepth 100000 in
set_option maxHeartbeats 2000000 in
theorem sh_s6r (tx bk sh : ByteArray) (nm fl c1 r1 c2 r2 pl : Int) (f1 g1 f2 g2 wd : Bool) (w : World) :
    Calls Tryz.prog 15 #[.agg #[.int .i64 6, .string tx, .int .i64 nm, .int .i64 fl, .string bk, .string sh, .int .i64 c1, .int .i64 r1, .bool f1, .bool g1, .int .i64 c2, .int .i64 r2, .bool f2, .bool g2, .bool wd, .int .i64 pl]] w fun e w' => e = .returned (.string ⟨#[40]⟩) ∧ Below w.heap.size w w' := by
  go_enter Tryz.func15, Tryz.ntmps15
  go_upto_region 1 with fail
  have R := hide (cells_new w 47 #[.int .i64 6, .string tx, .int .i64 nm, .int .i64 fl, .string bk, .string sh, .int .i64 c1, .int .i64 r1, .bool f1, .bool g1, .int .i64 c2, .int .i64 r2, .bool f2, .bool g2, .bool wd, .int .i64 pl])
  have HB : Hid (Below w.heap.size w (w.alloc (.cells #[.int .i64 6, .string tx, .int .i64 nm, .int .i64 fl, .string bk, .string sh, .int .i64 c1, .int .i64 r1, .bool f1, .bool g1, .int .i64 c2, .int .i64 r2, .bool f2, .bool g2, .bool wd, .int .i64 pl] 47))) := hide (below_al _ _)
  generalize hW : w.alloc (.cells #[.int .i64 6, .string tx, .int .i64 nm, .int .i64 fl, .string bk, .string sh, .int .i64 c1, .int .i64 r1, .bool f1, .bool g1, .int .i64 c2, .int .i64 r2, .bool f2, .bool g2, .bool wd, .int .i64 pl] 47) = W0 at R HB ⊢
  clear hW
  obtain ⟨r_0, r_1, r_2, r_3, r_4, r_5, r_6, r_7, r_8, r_9, r_10, r_11, r_12, r_13, r_14, r_15⟩ := cells16 (unhide R)
  go_wp2
  go_ret
  exact ⟨rfl, unhide HB⟩
set_option maxRecDepth 100000 in
set_option maxHeartbeats 2000000 in
theorem sh_s7r (tx bk sh : ByteArray) (nm fl c1 r1 c2 r2 pl : Int) (f1 g1 f2 g2 wd : Bool) (w : World) :
    Calls Tryz.prog 15 #[.agg #[.int .i64 7, .string tx, .int .i64 nm, .int .i64 fl, .string bk, .string sh, .int .i64 c1, .int .i64 r1, .bool f1, .bool g1, .int .i64 c2, .int .i64 r2, .bool f2, .bool g2, .bool wd, .int .i64 pl]] w fun e w' => e = .returned (.string ⟨#[41]⟩) ∧ Below w.heap.size w w' := by
  go_enter Tryz.func15, Tryz.ntmps15
  go_upto_region 1 with fail
  have R := hide (cells_new w 47 #[.int .i64 7, .string tx, .int .i64 nm, .int .i64 fl, .string bk, .string sh, .int .i64 c1, .int .i64 r1, .bool f1, .bool g1, .int .i64 c2, .int .i64 r2, .bool f2, .bool g2, .bool wd, .int .i64 pl])
  have HB : Hid (Below w.heap.size w (w.alloc (.cells #[.int .i64 7, .string tx, .int .i64 nm, .int .i64 fl, .string bk, .string sh, .int .i64 c1, .int .i64 r1, .bool f1, .bool g1, .int .i64 c2, .int .i64 r2, .bool f2, .bool g2, .bool wd, .int .i64 pl] 47))) := hide (below_al _ _)
  generalize hW : w.alloc (.cells #[.int .i64 7, .string tx, .int .i64 nm, .int .i64 fl, .string bk, .string sh, .int .i64 c1, .int .i64 r1, .bool f1, .bool g1, .int .i64 c2, .int .i64 r2, .bool f2, .bool g2, .bool wd, .int .i64 pl] 47) = W0 at R HB ⊢
  clear hW
  obtain ⟨r_0, r_1, r_2, r_3, r_4, r_5, r_6, r_7, r_8, r_9, r_10, r_11, r_12, r_13, r_14, r_15⟩ := cells16 (unhide R)
  go_wp2
  go_ret
  exact ⟨rfl, unhide HB⟩
set_option maxRecDepth 100000 in
set_option maxHeartbeats 2000000 in
theorem sh_s8r (tx bk sh : ByteArray) (nm fl c1 r1 c2 r2 pl : Int) (f1 g1 f2 g2 wd : Bool) (w : World) :
    Calls Tryz.prog 15 #[.agg #[.int .i64 8, .string tx, .int .i64 nm, .int .i64 fl, .string bk, .string sh, .int .i64 c1, .int .i64 r1, .bool f1, .bool g1, .int .i64 c2, .int .i64 r2, .bool f2, .bool g2, .bool wd, .int .i64 pl]] w fun e w' => e = .returned (.string ⟨#[44]⟩) ∧ Below w.heap.size w w' := by
  go_enter Tryz.func15, Tryz.ntmps15
  go_upto_region 1 with fail
  have R := hide (cells_new w 47 #[.int .i64 8, .string tx, .int .i64 nm, .int .i64 fl, .string bk, .string sh, .int .i64 c1, .int .i64 r1, .bool f1, .bool g1, .int .i64 c2, .int .i64 r2, .bool f2, .bool g2, .bool wd, .int .i64 pl])
  have HB : Hid (Below w.heap.size w (w.alloc (.cells #[.int .i64 8, .string tx, .int .i64 nm, .int .i64 fl, .string bk, .string sh, .int .i64 c1, .int .i64 r1, .bool f1, .bool g1, .int .i64 c2, .int .i64 r2, .bool f2, .bool g2, .bool wd, .int .i64 pl] 47))) := hide (below_al _ _)
  generalize hW : w.alloc (.cells #[.int .i64 8, .string tx, .int .i64 nm, .int .i64 fl, .string bk, .string sh, .int .i64 c1, .int .i64 r1, .bool f1, .bool g1, .int .i64 c2, .int .i64 r2, .bool f2, .bool g2, .bool wd, .int .i64 pl] 47) = W0 at R HB ⊢
  clear hW
  obtain ⟨r_0, r_1, r_2, r_3, r_4, r_5, r_6, r_7, r_8, r_9, r_10, r_11, r_12, r_13, r_14, r_15⟩ := cells16 (unhide R)
  go_wp2
  go_ret
  exact ⟨rfl, unhide HB⟩
set_option maxRecDepth 100000 in
set_option maxHeartbeats 2000000 in
theorem sh_noner (tx bk sh : ByteArray) (nm fl c1 r1 c2 r2 pl : Int) (f1 g1 f2 g2 wd : Bool) (w : World) (k : Int) (n0 : ¬ k = 0) (n1 : ¬ k = 1) (n2 : ¬ k = 2) (n3 : ¬ k = 3) (n4 : ¬ k = 4) (n5 : ¬ k = 5) (n6 : ¬ k = 6) (n7 : ¬ k = 7) (n8 : ¬ k = 8) :
    Calls Tryz.prog 15 #[.agg #[.int .i64 k, .string tx, .int .i64 nm, .int .i64 fl, .string bk, .string sh, .int .i64 c1, .int .i64 r1, .bool f1, .bool g1, .int .i64 c2, .int .i64 r2, .bool f2, .bool g2, .bool wd, .int .i64 pl]] w fun e w' => e = .returned (.string ⟨#[]⟩) ∧ Below w.heap.size w w' := by
  have b0 : (k == 0) = false := beq_eq_false_iff_ne.2 n0
  have b1 : (k == 1) = false := beq_eq_false_iff_ne.2 n1
  have b2 : (k == 2) = false := beq_eq_false_iff_ne.2 n2
  have b3 : (k == 3) = false := beq_eq_false_iff_ne.2 n3
  have b4 : (k == 4) = false := beq_eq_false_iff_ne.2 n4
  have b5 : (k == 5) = false := beq_eq_false_iff_ne.2 n5
  have b6 : (k == 6) = false := beq_eq_false_iff_ne.2 n6
  have b7 : (k == 7) = false := beq_eq_false_iff_ne.2 n7
  have b8 : (k == 8) = false := beq_eq_false_iff_ne.2 n8
  go_enter Tryz.func15, Tryz.ntmps15
  go_upto_region 1 with fail
  have R := hide (cells_new w 47 #[.int .i64 k, .string tx, .int .i64 nm, .int .i64 fl, .string bk, .string sh, .int .i64 c1, .int .i64 r1, .bool f1, .bool g1, .int .i64 c2, .int .i64 r2, .bool f2, .bool g2, .bool wd, .int .i64 pl])
  have HB : Hid (Below w.heap.size w (w.alloc (.cells #[.int .i64 k, .string tx, .int .i64 nm, .int .i64 fl, .string bk, .string sh, .int .i64 c1, .int .i64 r1, .bool f1, .bool g1, .int .i64 c2, .int .i64 r2, .bool f2, .bool g2, .bool wd, .int .i64 pl] 47))) := hide (below_al _ _)
  generalize hW : w.alloc (.cells #[.int .i64 k, .string tx, .int .i64 nm, .int .i64 fl, .string bk, .string sh, .int .i64 c1, .int .i64 r1, .bool f1, .bool g1, .int .i64 c2, .int .i64 r2, .bool f2, .bool g2, .bool wd, .int .i64 pl] 47) = W0 at R HB ⊢
  clear hW
  obtain ⟨r_0, r_1, r_2, r_3, r_4, r_5, r_6, r_7, r_8, r_9, r_10, r_11, r_12, r_13, r_14, r_15⟩ := cells16 (unhide R)
  go_wp2
  go_ret
  exact ⟨rfl, unhide HB⟩
theorem show5_ref (t : Tk) (w : World) (ht : t.text.size ≤ 1000) :
    Calls Tryz.prog 15 #[.agg t.cells] w fun e w' => e = .returned (.string ⟨(showL t).toArray⟩) ∧ Below w.heap.size w w' := by
  obtain ⟨k, tx, nm, fl, ⟨bk, sh, ⟨c1, r1, f1, g1⟩, ⟨c2, r2, f2, g2⟩, wd⟩, pl⟩ := t
  unfold Tk.cells
  simp only [] at ht ⊢
  by_cases k0 : k = 0
  · subst k0
    exact sh_numr tx bk sh nm fl c1 r1 c2 r2 pl f1 g1 f2 g2 wd w _ (hide (fun w => text_ref nm w))
  by_cases k1 : k = 1
  · subst k1
    exact sh_textr tx bk sh nm fl c1 r1 c2 r2 pl f1 g1 f2 g2 wd w _ (hide (fun w => quoted5_ref tx w ht))
  by_cases k2 : k = 2
  · subst k2
    exact sh_failr tx bk sh nm fl c1 r1 c2 r2 pl f1 g1 f2 g2 wd w _ (hide (fun w => signs_ref fl w))
  by_cases k3 : k = 3
  · subst k3
    exact sh_refr tx bk sh nm fl c1 r1 c2 r2 pl f1 g1 f2 g2 wd w _ (hide (fun w => text4_ref ⟨bk, sh, ⟨c1, r1, f1, g1⟩, ⟨c2, r2, f2, g2⟩, wd⟩ w))
  by_cases k4 : k = 4
  · subst k4
    exact sh_wordr tx bk sh nm fl c1 r1 c2 r2 pl f1 g1 f2 g2 wd w
  by_cases k5 : k = 5
  · subst k5
    exact sh_opr tx bk sh nm fl c1 r1 c2 r2 pl f1 g1 f2 g2 wd w
  by_cases k6 : k = 6
  · subst k6
    exact sh_s6r tx bk sh nm fl c1 r1 c2 r2 pl f1 g1 f2 g2 wd w
  by_cases k7 : k = 7
  · subst k7
    exact sh_s7r tx bk sh nm fl c1 r1 c2 r2 pl f1 g1 f2 g2 wd w
  by_cases k8 : k = 8
  · subst k8
    exact sh_s8r tx bk sh nm fl c1 r1 c2 r2 pl f1 g1 f2 g2 wd w
  have E : showL ⟨k, tx, nm, fl, ⟨bk, sh, ⟨c1, r1, f1, g1⟩, ⟨c2, r2, f2, g2⟩, wd⟩, pl⟩ = [] := by
    unfold showL
    simp only []
    rw [if_neg k0, if_neg k1, if_neg k2, if_neg k3, if_neg (by omega), if_neg k6, if_neg k7, if_neg k8]
  rw [E]
  exact sh_noner tx bk sh nm fl c1 r1 c2 r2 pl f1 g1 f2 g2 wd w k k0 k1 k2 k3 k4 k5 k6 k7 k8
end Go.Proofs.YtgoaefpkhjbkjaaGreatDoor
