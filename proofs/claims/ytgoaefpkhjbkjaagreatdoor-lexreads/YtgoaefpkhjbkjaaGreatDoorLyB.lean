/- The contract of the reference's text. -/
import Derived.Test.YtgoaefpkhjbkjaaGreatDoorLyQ
import Derived.Test.YtgoaefpkhjbkjaaGreatDoorLxY
namespace Go.Proofs.YtgoaefpkhjbkjaaGreatDoor
open Go.RowKit

/-- Behind place k, what stands ahead of it being read. -/
def QAt (l : List UInt8) (k : Nat) (pre : List UInt8) : Prop := qIn l.tail = (qIn (l.drop k)).map (fun p => (pre ++ p.1, p.2 + (k - 1)))
theorem QAt.first (l : List UInt8) : QAt l 1 [] := by
  unfold QAt
  rw [tail_drop]
  cases qIn l.tail <;> rfl
theorem QAt.two {l : List UInt8} {k : Nat} {pre : List UInt8} (h : QAt l k pre) (h1 : 1 ≤ k) (h2 : (l.drop k).take 2 = [34, 34]) : QAt l (k + 2) (pre ++ [34]) := by
  unfold QAt at h ⊢
  rw [h, q_two l k h2]
  cases qIn (l.drop (k + 2)) with
  | none => rfl
  | some p => simp only [Option.map_some, List.append_assoc, List.singleton_append]; congr 2; omega
theorem QAt.on {l : List UInt8} {k : Nat} {pre : List UInt8} (h : QAt l k pre) (h1 : 1 ≤ k) (c : UInt8) (h0 : (l.drop k).head? = some c) (hc : c ≠ 34) : QAt l (k + 1) (pre ++ [c]) := by
  unfold QAt at h ⊢
  rw [h, q_on l k c h0 hc]
  cases qIn (l.drop (k + 1)) with
  | none => rfl
  | some p => simp only [Option.map_some, List.append_assoc, List.singleton_append]; congr 2; omega
theorem QAt.stop {l : List UInt8} {k : Nat} {pre : List UInt8} (h : QAt l k pre) (h1 : 1 ≤ k) (h0 : (l.drop k).head? = some 34) (h2 : (l.drop k).take 2 ≠ [34, 34]) : qIn l.tail = some (pre, k) := by
  unfold QAt at h
  rw [h, q_end l k h0 h2]
  simp only [Option.map_some, List.append_nil]; congr 2; omega
theorem QAt.none {l : List UInt8} {k : Nat} {pre : List UInt8} (h : QAt l k pre) (h0 : l.length ≤ k) : qIn l.tail = Option.none := by
  unfold QAt at h
  rw [h, q_stop l k h0]; rfl
theorem two_at (s : ByteArray) (k : Nat) (h : k + 1 < s.size) : (s.data.toList.drop k).take 2 = [s[k], s[k + 1]] := by
  have hk : k < s.data.toList.length := by show k < s.size; omega
  have hk1 : k + 1 < s.data.toList.length := h
  rw [List.drop_eq_getElem_cons hk, List.drop_eq_getElem_cons hk1]; rfl
theorem two_last (s : ByteArray) (k : Nat) (h : k + 1 = s.size) : (s.data.toList.drop k).take 2 ≠ [34, 34] := by
  intro e
  have := congrArg List.length e
  have hs : s.data.toList.length = s.size := rfl
  rw [List.length_take, List.length_drop, hs] at this
  simp only [List.length_cons, List.length_nil] at this
  omega
set_option maxRecDepth 100000 in
set_option maxHeartbeats 8000000 in
theorem text5_ref (s : ByteArray) (w : World) (hs : s.size ≤ 1000) (h1 : 1 ≤ s.size) :
    Calls Tryz.prog 40 #[.string s] w fun e w' => e = .returned (.tuple #[.agg (textTok s.data.toList).1.cells, .int .i64 (textTok s.data.toList).2.1, .int .i64 (textTok s.data.toList).2.2]) ∧ Below w.heap.size w w' := by
  obtain ⟨i0, hi, hz0, hz1, hz2⟩ := byte_parts info5b
  have hsz : s.data.toList.length = s.size := rfl
  have HS := hide hsz
  clear hsz
  go_enter Tryz.func40, Tryz.ntmps40
  go_upto_region 1 with fail
  have R := hide (cells_new w 47 #[.int .i64 0, .string ⟨#[]⟩, .int .i64 0, .int .i64 0, .string ⟨#[]⟩, .string ⟨#[]⟩, .int .i64 0, .int .i64 0, .bool false, .bool false, .int .i64 0, .int .i64 0, .bool false, .bool false, .bool false, .int .i64 0])
  have HB : Hid (Below w.heap.size w (w.alloc (.cells #[.int .i64 0, .string ⟨#[]⟩, .int .i64 0, .int .i64 0, .string ⟨#[]⟩, .string ⟨#[]⟩, .int .i64 0, .int .i64 0, .bool false, .bool false, .int .i64 0, .int .i64 0, .bool false, .bool false, .bool false, .int .i64 0] 47))) := hide (below_al _ _)
  generalize hW : w.alloc (.cells #[.int .i64 0, .string ⟨#[]⟩, .int .i64 0, .int .i64 0, .string ⟨#[]⟩, .string ⟨#[]⟩, .int .i64 0, .int .i64 0, .bool false, .bool false, .int .i64 0, .int .i64 0, .bool false, .bool false, .bool false, .int .i64 0] 47) = W0 at R HB ⊢
  clear hW
  have hlR := cells_lt (unhide R)
  go_wp2
  go_loopw [5, 6] (fun v i wr => ∃ (k : Nat) (pre : List UInt8), 1 ≤ k ∧ k ≤ s.size ∧ i = .int .i64 (k : Int) ∧ pre.length ≤ k ∧ Hid (QAt s.data.toList k pre) ∧ Hid (ByRow (w.heap.size + 1) wr v pre) ∧ Hid (CellsAt wr w.heap.size 47 #[.int .i64 0, .string ⟨#[]⟩, .int .i64 0, .int .i64 0, .string ⟨#[]⟩, .string ⟨#[]⟩, .int .i64 0, .int .i64 0, .bool false, .bool false, .int .i64 0, .int .i64 0, .bool false, .bool false, .bool false, .int .i64 0]) ∧ Hid (Below w.heap.size w wr) ∧ w.heap.size < wr.heap.size) (fun _ i _ => s.size - (intOf i).toNat)
  case atStart => exact ⟨1, [], by omega, h1, rfl, by simp, hide (QAt.first _), hide (World.ownsRow_nil _ _ _ _), R, HB, hlR⟩
  case round =>
    clear R HB hlR
    obtain ⟨k, pre, hk1, hk, rfl, hpl, HQ, HO, R, HB, hlR⟩ := hrel
    by_cases hlt : k < s.size
    · have hq := byte_eq s[k] 34
      rw [show ((34 : UInt8).toNat : Int) = 34 from rfl] at hq
      cases h34 : ((s[k].toNat : Int) == 34)
      · rw [h34] at hq
        have hne : s[k] ≠ 34 := by simpa using hq
        have b34 : ((s[k].toNat : Int) != 34) = true := by simp [bne, h34]
        have HQ' := hide ((unhide HQ).on hk1 s[k] (head5_at s k hlt) hne)
        clear hq hne
        go_wp2_with (first
          | (at_builtin; refine wpList_append_own _ rfl _ _ 56 rfl (w.heap.size + 1) 5 i0 (.int .u8 0) 1 1 Tryz.underlying56 hi hz0 hz1 hz2 rfl (by decide) _ _ _ rfl ((unhide HO).alloc _) ⟨wr.heap.size, 0, none⟩ 1 1 [.int .u8 (s[k].toNat : Int)] rfl rfl (one_cell _ _ _) (by_one _) (by unfold maxLen; omega) (by omega) (by have := (unhide HB).size; simp; omega) ?_)
          | go_in)
        intro v' w1 hown' hgrow _
        have R' := hide (by_far (unhide HO) hgrow (Nat.lt_succ_self _) (unhide R))
        have S := hide (by_step s[k] rfl (unhide HB) (Nat.le_succ _) (unhide HO) hown' hgrow)
        have hlR' := cells_lt (unhide R')
        clear hown' hgrow
        go_wp2
        go_roundw
        case rel => exact ⟨k + 1, pre ++ [s[k]], by omega, by omega, by go_num, by rw [List.length_append, List.length_singleton]; omega, HQ', hide (unhide S).1, R', hide (unhide S).2, hlR'⟩
        case measure => simp [intOf]; omega
      · rw [h34] at hq
        have e34 : s[k] = 34 := by simpa using hq
        have b34 : ((s[k].toNat : Int) != 34) = false := by simp [bne, h34]
        have H0 : Hid ((s.data.toList.drop k).head? = some 34) := hide (by rw [head5_at s k hlt, e34])
        have hwr : IntKind.i64.wrap ((k : Int) + 1) = (k : Int) + 1 := IntWalk.i64_in _ (by omega)
        have E34 := hide e34
        clear e34 hq
        by_cases hl2 : k + 1 < s.size
        · have hl2i : (k : Int) + 1 < (s.size : Int) := by omega
          have d2 : decide ((k : Int) + 1 < (s.size : Int)) = true := decide_eq_true hl2i
          have hq2 := byte_eq s[k + 1] 34
          rw [show ((34 : UInt8).toNat : Int) = 34 from rfl] at hq2
          cases g34 : ((s[k + 1].toNat : Int) == 34)
          · have N2 : Hid ((s.data.toList.drop k).take 2 ≠ [34, 34]) := hide (by
              rw [g34] at hq2
              rw [two_at s k hl2]
              intro e
              have : s[k + 1] = 34 := by simpa using (List.cons.inj (List.cons.inj e).2).1
              rw [this] at hq2
              simp at hq2)
            clear hq2
            have HE0 := hide ((unhide HQ).stop hk1 (unhide H0) (unhide N2))
            obtain ⟨va, vc, rfl⟩ := by_form (unhide HO)
            have cv := by_conv (unhide HO)
            obtain ⟨r_0, r_1, r_2, r_3, r_4, r_5, r_6, r_7, r_8, r_9, r_10, r_11, r_12, r_13, r_14, r_15⟩ := cells16 (unhide R)
            obtain ⟨fz_0, fz_1, fz_2, fz_3, fz_4, fz_5, fz_6, fz_7, fz_8, fz_9, fz_10, fz_11, fz_12, fz_13, fz_14, fz_15⟩ := frz16 (unhide R)
            by_cases h5 : 255 < pre.length
            · have h5i : 255 < (pre.length : Int) := by omega
              have HR : Hid (textTok s.data.toList = badT 7) := hide (by
                unfold textTok
                rw [unhide HE0]
                simp only []
                rw [if_pos h5])
              clear h5
              go_wp2
              refine bodyPost_ret (results_c1tt rfl _ _ _ _ _ _ rfl (cells_set16 (unhide R) _ _ _ _ _ _ _ _ _ _ _ _ _ _ _ _) Tryz.underlying47 rfl (by exact infoRtk) _ rfl _ rfl) rfl ?_
              rw [unhide HR]
              exact ⟨rfl, below_set16 (unhide HB) (Nat.le_refl _) _ _ _ _ _ _ _ _ _ _ _ _ _ _ _ _⟩
            · have h5i : ¬ 255 < (pre.length : Int) := by omega
              have h5j : (pre.length : Int) ≤ 255 := by omega
              have HR : Hid (textTok s.data.toList = (⟨1, ⟨pre.toArray⟩, 0, 0, zeroF, 0⟩, k + 1, 0)) := hide (by
                unfold textTok
                rw [unhide HE0]
                simp only []
                rw [if_neg h5])
              have hk2 : Hid ((((k + 1 : Nat)) : Int) = (k : Int) + 1) := hide (by omega)
              clear h5
              go_wp2
              refine bodyPost_ret (results_c1tt rfl _ _ _ _ _ _ rfl (cells_set16 (unhide R) _ _ _ _ _ _ _ _ _ _ _ _ _ _ _ _) Tryz.underlying47 rfl (by exact infoRtk) _ rfl _ rfl) rfl ?_
              rw [unhide HR]
              refine ⟨?_, below_set16 (unhide HB) (Nat.le_refl _) _ _ _ _ _ _ _ _ _ _ _ _ _ _ _ _⟩
              show _ = Ending.returned (Value.tuple #[_, Value.int .i64 ((k + 1 : Nat) : Int), _])
              rw [unhide hk2]
              rfl
          · have H2 : Hid ((s.data.toList.drop k).take 2 = [34, 34]) := hide (by
              rw [g34] at hq2
              rw [two_at s k hl2, unhide E34]
              have : s[k + 1] = 34 := by simpa using hq2
              rw [this])
            have HQ' := hide ((unhide HQ).two hk1 (unhide H2))
            clear hq2
            go_wp2_with (first
              | (at_builtin; refine wpList_append_own _ rfl _ _ 56 rfl (w.heap.size + 1) 5 i0 (.int .u8 0) 1 1 Tryz.underlying56 hi hz0 hz1 hz2 rfl (by decide) _ _ _ rfl ((unhide HO).alloc _) ⟨wr.heap.size, 0, none⟩ 1 1 [.int .u8 34] rfl rfl (one_cell _ _ _) (by_one _) (by unfold maxLen; omega) (by omega) (by have := (unhide HB).size; simp; omega) ?_)
              | go_in)
            intro v' w1 hown' hgrow _
            have R' := hide (by_far (unhide HO) hgrow (Nat.lt_succ_self _) (unhide R))
            have S := hide (by_step 34 rfl (unhide HB) (Nat.le_succ _) (unhide HO) hown' hgrow)
            have hlR' := cells_lt (unhide R')
            clear hown' hgrow
            go_wp2
            go_roundw
            case rel => exact ⟨k + 2, pre ++ [34], by omega, by omega, by go_num, by rw [List.length_append, List.length_singleton]; omega, HQ', hide (unhide S).1, R', hide (unhide S).2, hlR'⟩
            case measure => simp [intOf]; omega
        · have hl2i : ¬ (k : Int) + 1 < (s.size : Int) := by omega
          have d2 : decide ((k : Int) + 1 < (s.size : Int)) = false := decide_eq_false hl2i
          have N2 : Hid ((s.data.toList.drop k).take 2 ≠ [34, 34]) := hide (two_last s k (by omega))
          have HE0 := hide ((unhide HQ).stop hk1 (unhide H0) (unhide N2))
          obtain ⟨va, vc, rfl⟩ := by_form (unhide HO)
          have cv := by_conv (unhide HO)
          obtain ⟨r_0, r_1, r_2, r_3, r_4, r_5, r_6, r_7, r_8, r_9, r_10, r_11, r_12, r_13, r_14, r_15⟩ := cells16 (unhide R)
          obtain ⟨fz_0, fz_1, fz_2, fz_3, fz_4, fz_5, fz_6, fz_7, fz_8, fz_9, fz_10, fz_11, fz_12, fz_13, fz_14, fz_15⟩ := frz16 (unhide R)
          by_cases h5 : 255 < pre.length
          · have h5i : 255 < (pre.length : Int) := by omega
            have HR : Hid (textTok s.data.toList = badT 7) := hide (by
              unfold textTok
              rw [unhide HE0]
              simp only []
              rw [if_pos h5])
            clear h5
            go_wp2
            refine bodyPost_ret (results_c1tt rfl _ _ _ _ _ _ rfl (cells_set16 (unhide R) _ _ _ _ _ _ _ _ _ _ _ _ _ _ _ _) Tryz.underlying47 rfl (by exact infoRtk) _ rfl _ rfl) rfl ?_
            rw [unhide HR]
            exact ⟨rfl, below_set16 (unhide HB) (Nat.le_refl _) _ _ _ _ _ _ _ _ _ _ _ _ _ _ _ _⟩
          · have h5i : ¬ 255 < (pre.length : Int) := by omega
            have h5j : (pre.length : Int) ≤ 255 := by omega
            have HR : Hid (textTok s.data.toList = (⟨1, ⟨pre.toArray⟩, 0, 0, zeroF, 0⟩, k + 1, 0)) := hide (by
              unfold textTok
              rw [unhide HE0]
              simp only []
              rw [if_neg h5])
            have hk2 : Hid ((((k + 1 : Nat)) : Int) = (k : Int) + 1) := hide (by omega)
            clear h5
            go_wp2
            refine bodyPost_ret (results_c1tt rfl _ _ _ _ _ _ rfl (cells_set16 (unhide R) _ _ _ _ _ _ _ _ _ _ _ _ _ _ _ _) Tryz.underlying47 rfl (by exact infoRtk) _ rfl _ rfl) rfl ?_
            rw [unhide HR]
            refine ⟨?_, below_set16 (unhide HB) (Nat.le_refl _) _ _ _ _ _ _ _ _ _ _ _ _ _ _ _ _⟩
            show _ = Ending.returned (Value.tuple #[_, Value.int .i64 ((k + 1 : Nat) : Int), _])
            rw [unhide hk2]
            rfl
    · have HR : Hid (textTok s.data.toList = badT 4) := hide (by
        unfold textTok
        rw [(unhide HQ).none (by rw [unhide HS]; omega)])
      obtain ⟨r_0, r_1, r_2, r_3, r_4, r_5, r_6, r_7, r_8, r_9, r_10, r_11, r_12, r_13, r_14, r_15⟩ := cells16 (unhide R)
      obtain ⟨fz_0, fz_1, fz_2, fz_3, fz_4, fz_5, fz_6, fz_7, fz_8, fz_9, fz_10, fz_11, fz_12, fz_13, fz_14, fz_15⟩ := frz16 (unhide R)
      go_wp2
      refine bodyPost_ret (results_c1tt rfl _ _ _ _ _ _ rfl (cells_set16 (unhide R) _ _ _ _ _ _ _ _ _ _ _ _ _ _ _ _) Tryz.underlying47 rfl (by exact infoRtk) _ rfl _ rfl) rfl ?_
      rw [unhide HR]
      exact ⟨rfl, below_set16 (unhide HB) (Nat.le_refl _) _ _ _ _ _ _ _ _ _ _ _ _ _ _ _ _⟩
end Go.Proofs.YtgoaefpkhjbkjaaGreatDoor
