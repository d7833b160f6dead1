/- Rows of bytes of one's own; the contract of the reference's Quoted. -/
import Derived.Test.YtgoaefpkhjbkjaaGreatDoorLxE
import Derived.Test.YtgoaefpkhjbkjaaGreatDoorRfB
import Derived.Laws.OwnMore
import Derived.Deep.AppendLies
import Derived.Laws.IdiomStrings
namespace Go.Proofs.YtgoaefpkhjbkjaaGreatDoor
open Go.RowKit

theorem info5b : (Tryz.prog.info? 5).map (fun i => (i.zero, i.size, i.bytes)) = some (some (.int .u8 0), 1, 1) := by kernel_rfl
theorem byte_parts {P : Program} {t : TypeId} {z : Value} (h : (P.info? t).map (fun i => (i.zero, i.size, i.bytes)) = some (some z, 1, 1)) : ∃ i, P.info? t = some i ∧ i.zero = some z ∧ i.size = 1 ∧ i.bytes = 1 := by
  cases hi : P.info? t with
  | none => rw [hi] at h; cases h
  | some i =>
    rw [hi] at h
    simp only [Option.map_some, Option.some.injEq, Prod.mk.injEq] at h
    exact ⟨i, rfl, h.1, h.2.1, h.2.2⟩
def byV (c : UInt8) : Value := .int .u8 (c.toNat : Int)
/-- A row of bytes of one's own. -/
def ByRow (B : Nat) (wr : World) (v : Value) (l : List UInt8) : Prop := wr.ownsRow B 5 1 v l.length (l.map byV)
theorem by_one (x : Int) : ∀ u ∈ [Value.int .u8 x], u.oneCell' = true := by
  intro u hu
  simp at hu
  subst hu
  rfl
theorem by_start (w1 : World) (x : Int) (c : UInt8) (h : x = (c.toNat : Int)) : ByRow w1.heap.size (w1.alloc (.cells #[.int .u8 x] 5)) (.slice (some ⟨w1.heap.size, 0, none⟩) 1 1) [c] := by
  subst h
  exact World.ownsRow_lit w1 #[byV c] 1 (Nat.le_refl _) (by decide) rfl
theorem by_step {B : Nat} {w wr w2 : World} {v v' : Value} {l : List UInt8} {x : Int} {o : Obj} (c : UInt8) (hx : x = (c.toNat : Int)) (hb : Below w.heap.size w wr) (hB : w.heap.size ≤ B) (h : ByRow B wr v l)
    (hown' : w2.ownsRow B 5 1 v' (l.length + 1) (l.map byV ++ [.int .u8 x])) (hgrow : (wr.alloc o).grownBy w2 v.ownBlock) : ByRow B w2 v' (l ++ [c]) ∧ Below w.heap.size w w2 := by
  subst hx
  refine ⟨?_, (hb.alloc hb.size o).grown hgrow (by have := hb.size; simp; omega) ?_⟩
  · unfold ByRow
    rw [List.length_append, List.map_append]; exact hown'
  · intro j hj
    rcases h.2 with ⟨rfl, _⟩ | ⟨g, cap, cur, rfl, hg, _⟩
    · cases hj
    · simp [Value.ownBlock] at hj; omega
/-- A block below the row's is as it was. -/
theorem by_far {B g : Nat} {wr w2 : World} {v : Value} {l : List UInt8} {o : Obj} {t : TypeId} {cs : Array Value} (h : ByRow B wr v l) (hgrow : (wr.alloc o).grownBy w2 v.ownBlock) (hg : g < B) (hc : CellsAt wr g t cs) : CellsAt w2 g t cs := by
  have h1 := cells_al hc o
  unfold CellsAt at h1 ⊢
  rw [hgrow.block g (cells_lt h1), h1]
  rcases h.2 with ⟨rfl, _⟩ | ⟨g', cap, cur, rfl, hg', _⟩
  · simp [Value.ownBlock]
  · simp [Value.ownBlock]; omega
theorem by_conv {B : Nat} {wr : World} {v : Value} {l : List UInt8} (h : ByRow B wr v l) : (convert 56 9 v).run Tryz.prog wr = .ok (.string ⟨l.toArray⟩) wr := by
  by_cases hl : 0 < l.length
  · obtain ⟨g, cap, rfl, hg, _⟩ := World.ownsRow.form h hl
    exact run_convert_bytes_back (P := Tryz.prog) wr 56 9 5 ⟨g, 0, none⟩ cap l Tryz.underlying56 Tryz.underlying5 Tryz.underlying9 (fun j hj => by
      have hadd : (⟨g, 0, none⟩ : Addr).add j = ⟨g, j, none⟩ := by unfold Addr.add; split <;> simp_all
      rw [hadd, World.ownsRow.cellAt h j (by omega), List.getElem?_map, List.getElem?_eq_getElem hj]
      rfl)
  · have e : l = [] := List.eq_nil_of_length_eq_zero (by omega)
    subst e
    rcases h.2 with ⟨rfl, _⟩ | ⟨g, cap, cur, rfl, hg, _⟩
    · rw [run_convert_bytes_string (P := Tryz.prog) wr 56 9 5 none 0 0 Tryz.underlying56 Tryz.underlying5 Tryz.underlying9]
      rfl
    · exact run_convert_bytes_back (P := Tryz.prog) wr 56 9 5 ⟨g, 0, none⟩ cap [] Tryz.underlying56 Tryz.underlying5 Tryz.underlying9 (fun j hj => by simp at hj)
theorem by_form {B : Nat} {wr : World} {v : Value} {l : List UInt8} (h : ByRow B wr v l) : ∃ a cap, v = .slice a l.length cap := by
  rcases h.2 with ⟨rfl, h0⟩ | ⟨g, cap, cur, rfl, _⟩
  · exact ⟨none, 0, by rw [h0]⟩
  · exact ⟨_, cap, rfl⟩
theorem dbl_snoc (l : List UInt8) (c : UInt8) : dblL (l ++ [c]) = dblL l ++ (if c = 34 then [34, 34] else [c]) := by
  induction l with
  | nil =>
    rw [List.nil_append, dblL, dblL]
    split <;> simp [dblL]
  | cons d l ih =>
    rw [List.cons_append, dblL, dblL, ih]
    split <;> simp
def qd (l : List UInt8) (k : Nat) : List UInt8 := 34 :: dblL (l.take k)
theorem qd_len (l : List UInt8) (k : Nat) : (qd l k).length ≤ 2 * l.length + 1 := by
  unfold qd
  have h : ∀ m : List UInt8, (dblL m).length ≤ 2 * m.length := by
    intro m
    induction m with
    | nil => exact Nat.le_refl _
    | cons c m ih =>
      rw [dblL]
      split
      · simp only [List.length_cons]; omega
      · simp only [List.length_cons]; omega
  have := h (l.take k)
  rw [List.length_take] at this
  rw [List.length_cons]; omega
set_option maxRecDepth 100000 in
set_option maxHeartbeats 4000000 in
theorem quoted5_ref (s : ByteArray) (w : World) (hs : s.size ≤ 1000) :
    Calls Tryz.prog 26 #[.string s] w fun e w' => e = .returned (.string ⟨(34 :: (dblL s.data.toList ++ [34])).toArray⟩) ∧ Below w.heap.size w w' := by
  obtain ⟨i0, hi, hz0, hz1, hz2⟩ := byte_parts info5b
  have hsz : s.data.toList.length = s.size := rfl
  have HS := hide hsz
  clear hsz
  go_enter Tryz.func26, Tryz.ntmps26
  go_upto_region 2 with fail
  have HO := hide (by_start w 34 34 rfl)
  have HB : Hid (Below w.heap.size w (w.alloc (.cells #[.int .u8 34] 5))) := hide (below_al _ _)
  generalize hW : w.alloc (.cells #[.int .u8 34] 5) = W0 at HO HB ⊢
  clear hW
  go_wp2
  go_loopw [3, 4] (fun v i wr => ∃ k : Nat, k ≤ s.size ∧ i = .int .i64 (k : Int) ∧ Hid (ByRow w.heap.size wr v (qd s.data.toList k)) ∧ Hid (Below w.heap.size w wr)) (fun _ i _ => s.size - (intOf i).toNat)
  case atStart => exact ⟨0, Nat.zero_le _, rfl, HO, HB⟩
  case round =>
    clear HO HB
    obtain ⟨k, hk, rfl, HO, HB⟩ := hrel
    have hql := qd_len s.data.toList k
    rw [unhide HS] at hql
    by_cases hlt : k < s.size
    · have hq := byte_eq s[k] 34
      rw [show ((34 : UInt8).toNat : Int) = 34 from rfl] at hq
      have HTK := hide (take_snoc4 s k hlt)
      cases h34 : ((s[k].toNat : Int) == 34)
      · rw [h34] at hq
        have HQ' : Hid (qd s.data.toList (k + 1) = qd s.data.toList k ++ [s[k]]) := hide (by
          have : s[k] ≠ 34 := by simpa using hq
          unfold qd
          rw [unhide HTK, dbl_snoc, if_neg this]; rfl)
        clear hq
        go_wp2_with (first
          | (at_builtin; refine wpList_append_own _ rfl _ _ 56 rfl w.heap.size 5 i0 (.int .u8 0) 1 1 Tryz.underlying56 hi hz0 hz1 hz2 rfl (by decide) _ _ _ rfl ((unhide HO).alloc _) ⟨wr.heap.size, 0, none⟩ 1 1 [.int .u8 (s[k].toNat : Int)] rfl rfl (one_cell _ _ _) (by_one _) (by unfold maxLen; omega) (by omega) (by have := (unhide HB).size; simp; omega) ?_)
          | go_in)
        intro v' w1 hown' hgrow _
        have R := hide (by_step s[k] rfl (unhide HB) (Nat.le_refl _) (unhide HO) hown' hgrow)
        rw [← unhide HQ'] at R
        clear hown' hgrow
        go_wp2
        go_roundw
        case rel => exact ⟨k + 1, by omega, by go_num, hide (unhide R).1, hide (unhide R).2⟩
        case measure => simp [intOf]; omega
      · rw [h34] at hq
        have e34 : s[k] = 34 := by simpa using hq
        have HQ' : Hid (qd s.data.toList (k + 1) = (qd s.data.toList k ++ [s[k]]) ++ [34]) := hide (by
          unfold qd
          rw [unhide HTK, dbl_snoc, if_pos e34, e34]; simp)
        clear hq e34
        go_wp2_with (first
          | (at_builtin; refine wpList_append_own _ rfl _ _ 56 rfl w.heap.size 5 i0 (.int .u8 0) 1 1 Tryz.underlying56 hi hz0 hz1 hz2 rfl (by decide) _ _ _ rfl ((unhide HO).alloc _) ⟨wr.heap.size, 0, none⟩ 1 1 [.int .u8 (s[k].toNat : Int)] rfl rfl (one_cell _ _ _) (by_one _) (by unfold maxLen; omega) (by omega) (by have := (unhide HB).size; simp; omega) ?_)
          | go_in)
        intro v' w1 hown' hgrow _
        have R := hide (by_step s[k] rfl (unhide HB) (Nat.le_refl _) (unhide HO) hown' hgrow)
        clear hown' hgrow HO HB
        have HO := hide (unhide R).1
        have HB := hide (unhide R).2
        clear R
        have hql2 : (qd s.data.toList k ++ [s[k]]).length ≤ 2 * s.size + 2 := by rw [List.length_append, List.length_singleton]; omega
        generalize qd s.data.toList k ++ [s[k]] = q2 at HO hql2 HQ'
        go_wp2_with (first
          | (at_builtin; refine wpList_append_own _ rfl _ _ 56 rfl w.heap.size 5 i0 (.int .u8 0) 1 1 Tryz.underlying56 hi hz0 hz1 hz2 rfl (by decide) _ _ _ rfl ((unhide HO).alloc _) ⟨w1.heap.size, 0, none⟩ 1 1 [.int .u8 34] rfl rfl (one_cell _ _ _) (by_one _) (by unfold maxLen; omega) (by omega) (by have := (unhide HB).size; simp; omega) ?_)
          | go_in)
        intro v2 w2 hown' hgrow _
        have R := hide (by_step 34 rfl (unhide HB) (Nat.le_refl _) (unhide HO) hown' hgrow)
        rw [← unhide HQ'] at R
        clear hown' hgrow
        go_wp2
        go_roundw
        case rel => exact ⟨k + 1, by omega, by go_num, hide (unhide R).1, hide (unhide R).2⟩
        case measure => simp [intOf]; omega
    · have ek : s.data.toList.take k = s.data.toList := List.take_of_length_le (by rw [unhide HS]; omega)
      have EK := hide ek
      clear ek
      go_wp2_with (first
        | (at_builtin; refine wpList_append_own _ rfl _ _ 56 rfl w.heap.size 5 i0 (.int .u8 0) 1 1 Tryz.underlying56 hi hz0 hz1 hz2 rfl (by decide) _ _ _ rfl ((unhide HO).alloc _) ⟨wr.heap.size, 0, none⟩ 1 1 [.int .u8 34] rfl rfl (one_cell _ _ _) (by_one _) (by unfold maxLen; omega) (by omega) (by have := (unhide HB).size; simp; omega) ?_)
        | go_in)
      intro v2 w2 hown' hgrow _
      have R := hide (by_step 34 rfl (unhide HB) (Nat.le_refl _) (unhide HO) hown' hgrow)
      clear hown' hgrow
      have cv := by_conv (unhide R).1
      go_wp2
      go_ret
      refine ⟨?_, (unhide R).2⟩
      unfold qd
      rw [unhide EK]
      rfl
end Go.Proofs.YtgoaefpkhjbkjaaGreatDoor
