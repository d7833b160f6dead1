/- The contracts of the reference's has, number, fail. -/
import Derived.Test.YtgoaefpkhjbkjaaGreatDoorLxY
import Derived.Test.YtgoaefpkhjbkjaaGreatDoorRfP
import Derived.Test.YtgoaefpkhjbkjaaGreatDoorVrZ
namespace Go.Proofs.YtgoaefpkhjbkjaaGreatDoor
open Go.RowKit

set_option maxHeartbeats 2000000 in
theorem has5_ref (s : ByteArray) (c : UInt8) (w : World) (hs : s.size ≤ 1000) :
    Calls Tryz.prog 44 #[.string s, .int .u8 (c.toNat : Int)] w fun e w' => e = .returned (.bool (s.data.toList.contains c)) ∧ w' = w := by
  have hsz : s.data.toList.length = s.size := rfl
  have HS := hide hsz
  clear hsz
  have HQ := hide (fun k : UInt8 => byte_eq k c)
  obtain ⟨b, hb⟩ : ∃ b, s.data.toList.contains c = b := ⟨_, rfl⟩
  rw [hb]
  have HBB := hide hb
  clear hb
  go_enter Tryz.func44, Tryz.ntmps44
  go_wp2
  go_loop [5] (fun i => ∃ k : Nat, k ≤ s.size ∧ i = .int .i64 k ∧ Hid ((s.data.toList.take k).contains c = false)) (fun i => s.size - (intOf i).toNat)
  case atStart => exact ⟨0, Nat.zero_le _, rfl, hide rfl⟩
  case round =>
    obtain ⟨k, hk, rfl, HT⟩ := hrel
    by_cases hlt : k < s.size
    · cases hg : (((s[k].toNat : Int)) == (c.toNat : Int))
      · have hs' : Hid ((s.data.toList.take (k + 1)).contains c = false) := hide (by
          rw [take_snoc4 s k hlt, List.contains_eq_mem, decide_eq_false_iff_not, List.mem_append, List.mem_singleton]
          have h1 := unhide HT
          rw [List.contains_eq_mem, decide_eq_false_iff_not] at h1
          rintro (h | h)
          · exact h1 h
          · have := unhide HQ s[k]
            rw [hg, ← h] at this
            simp at this)
        go_wp2
        go_round
        case rel => exact ⟨k + 1, by omega, by go_num, hs'⟩
        case measure => simp [intOf]; omega
      · have HR : Hid (s.data.toList.contains c = true) := hide (by
          rw [List.contains_eq_mem, decide_eq_true_iff]
          have := unhide HQ s[k]
          rw [hg, beq_iff_eq] at this
          rw [← this]
          exact List.getElem_mem (l := s.data.toList) (by exact hlt))
        go_wp2
        go_ret
        have eb := (unhide HBB).symm.trans (unhide HR)
        subst eb
        exact ⟨rfl, rfl⟩
    · have HR : Hid (s.data.toList.contains c = false) := hide (by
        have h1 := unhide HT
        rw [List.take_of_length_le (by rw [unhide HS]; omega)] at h1
        exact h1)
      go_wp2
      go_ret
      have eb := (unhide HBB).symm.trans (unhide HR)
      subst eb
      exact ⟨rfl, rfl⟩
/-- What the reference tells of a number. -/
def numRf (l : List UInt8) : Tok := (⟨0, emp, (parseR (numR l)).1, 0, zeroF, 0⟩, (numR l).length, (parseR (numR l)).2)
set_option maxRecDepth 100000 in
set_option maxHeartbeats 4000000 in
theorem number5_ref (s : ByteArray) (w : World) (hs : s.size ≤ 1000) :
    Calls Tryz.prog 39 #[.string s] w fun e w' => e = .returned (.tuple #[.agg (numRf s.data.toList).1.cells, .int .i64 (numRf s.data.toList).2.1, .int .i64 (numRf s.data.toList).2.2]) ∧ Below w.heap.size w w' := by
  have hsz : s.data.toList.length = s.size := rfl
  have HS := hide hsz
  clear hsz
  have HP := hide (fun (b : ByteArray) w h => parse_ref b w h)
  unfold PairPost at HP
  go_enter Tryz.func39, Tryz.ntmps39
  go_upto_region 1 with fail
  have R := hide (cells_new w 47 #[.int .i64 0, .string ⟨#[]⟩, .int .i64 0, .int .i64 0, .string ⟨#[]⟩, .string ⟨#[]⟩, .int .i64 0, .int .i64 0, .bool false, .bool false, .int .i64 0, .int .i64 0, .bool false, .bool false, .bool false, .int .i64 0])
  have HB : Hid (Below w.heap.size w (w.alloc (.cells #[.int .i64 0, .string ⟨#[]⟩, .int .i64 0, .int .i64 0, .string ⟨#[]⟩, .string ⟨#[]⟩, .int .i64 0, .int .i64 0, .bool false, .bool false, .int .i64 0, .int .i64 0, .bool false, .bool false, .bool false, .int .i64 0] 47))) := hide (below_al _ _)
  generalize hW : w.alloc (.cells #[.int .i64 0, .string ⟨#[]⟩, .int .i64 0, .int .i64 0, .string ⟨#[]⟩, .string ⟨#[]⟩, .int .i64 0, .int .i64 0, .bool false, .bool false, .int .i64 0, .int .i64 0, .bool false, .bool false, .bool false, .int .i64 0] 47) = W0 at R HB ⊢
  clear hW
  go_wp2
  go_loopw [5] (fun i wx => ∃ k : Nat, k ≤ s.size ∧ i = .int .i64 (k : Int) ∧ Hid ((s.data.toList.take k).all inNumC = true) ∧ wx = W0) (fun i _ => s.size - (intOf i).toNat)
  case atStart => exact ⟨0, Nat.zero_le _, rfl, hide rfl, rfl⟩
  case round =>
    obtain ⟨k, hk, rfl, HT, rfl⟩ := hrel
    by_cases hlt : k < s.size
    · have hq := byte_eq s[k] 46
      rw [show ((46 : UInt8).toNat : Int) = 46 from rfl] at hq
      have hx256 : s[k].toNat < 256 := s[k].toNat_lt
      cases h46 : ((s[k].toNat : Int) == 46)
      · rw [h46] at hq
        by_cases h48 : 48 ≤ s[k].toNat
        · have d48 : decide (48 ≤ (s[k].toNat : Int)) = true := decide_eq_true (by omega)
          by_cases h57 : s[k].toNat ≤ 57
          · have d57 : decide ((s[k].toNat : Int) ≤ 57) = true := decide_eq_true (by omega)
            have hg : inNumC s[k] = true := by unfold inNumC isDg; rw [decide_eq_true h48, decide_eq_true h57]; rfl
            have hs' : Hid ((s.data.toList.take (k + 1)).all inNumC = true) := hide (by rw [take_snoc4 s k hlt, List.all_append, unhide HT, List.all_cons, hg]; rfl)
            clear hg
            clear h48 h57 hq
            go_wp2
            go_roundw
            case rel => exact ⟨k + 1, by omega, by go_num, hs', trivial⟩
            case measure => simp [intOf]; omega
          · have d57 : decide ((s[k].toNat : Int) ≤ 57) = false := decide_eq_false (by omega)
            have hg : inNumC s[k] = false := by unfold inNumC isDg; rw [decide_eq_false h57, hq]; simp
            have hw := tw_here inNumC s k hlt hg
            clear hg h48 h57 hq
            have HZ := hide (tw_len inNumC s.data.toList k hk (unhide HT) hw)
            have hx := ext_take s k
            have HR : Hid (⟨(s.data.toList.take k).toArray⟩ = s.extract 0 k ∧ numR s.data.toList = s.data.toList.take k ∧ (s.data.toList.take k).length = k) := hide ⟨hx.symm, (unhide HZ).1, by rw [List.length_take, unhide HS]; omega⟩
            have hes : (s.extract 0 k).size ≤ 1000 := by
              rw [hx]
              show (s.data.toList.take k).length ≤ 1000
              rw [List.length_take, unhide HS]; omega
            have HP1 := hide (fun w => unhide HP (s.extract 0 k) w hes)
            rw [show (s.extract 0 k).data.toList = numR s.data.toList by rw [hx, (unhide HR).2.1]] at HP1
            have HPZ : Hid (numRf s.data.toList = (⟨0, emp, (parseR (numR s.data.toList)).1, 0, zeroF, 0⟩, k, (parseR (numR s.data.toList)).2)) := hide (by unfold numRf; rw [show (numR s.data.toList).length = k by rw [(unhide HR).2.1, (unhide HR).2.2]])
            generalize (parseR (numR s.data.toList)).1 = xn at HP1 HPZ
            generalize (parseR (numR s.data.toList)).2 = xe at HP1 HPZ
            have i1 : (0 : Int) ≤ (k : Int) := by omega
            have i2 : (k : Int) ≤ (s.size : Int) := by omega
            clear hw hx hes HZ HR HT
            go_wp2_with fail
            refine (unhide HP1 _).mono ?_
            rintro e wk ⟨rfl, bk⟩
            replace R := hide (cells_nx (unhide R) bk)
            replace HB := hide (below_nx (unhide HB) bk)
            clear bk
            obtain ⟨r_0, r_1, r_2, r_3, r_4, r_5, r_6, r_7, r_8, r_9, r_10, r_11, r_12, r_13, r_14, r_15⟩ := cells16 (unhide R)
            obtain ⟨fz_0, fz_1, fz_2, fz_3, fz_4, fz_5, fz_6, fz_7, fz_8, fz_9, fz_10, fz_11, fz_12, fz_13, fz_14, fz_15⟩ := frz16 (unhide R)
            go_wp2
            refine bodyPost_ret (results_c1tt rfl _ _ _ _ _ _ rfl (cells_set16 (unhide R) _ _ _ _ _ _ _ _ _ _ _ _ _ _ _ _) Tryz.underlying47 rfl (by exact infoRtk) _ rfl _ rfl) rfl ?_
            rw [unhide HPZ]
            exact ⟨rfl, below_set16 (unhide HB) (Nat.le_refl _) _ _ _ _ _ _ _ _ _ _ _ _ _ _ _ _⟩
        · have d48 : decide (48 ≤ (s[k].toNat : Int)) = false := decide_eq_false (by omega)
          have hg : inNumC s[k] = false := by unfold inNumC isDg; rw [decide_eq_false h48, hq]; rfl
          have hw := tw_here inNumC s k hlt hg
          clear hg h48 hq
          have HZ := hide (tw_len inNumC s.data.toList k hk (unhide HT) hw)
          have hx := ext_take s k
          have HR : Hid (⟨(s.data.toList.take k).toArray⟩ = s.extract 0 k ∧ numR s.data.toList = s.data.toList.take k ∧ (s.data.toList.take k).length = k) := hide ⟨hx.symm, (unhide HZ).1, by rw [List.length_take, unhide HS]; omega⟩
          have hes : (s.extract 0 k).size ≤ 1000 := by
            rw [hx]
            show (s.data.toList.take k).length ≤ 1000
            rw [List.length_take, unhide HS]; omega
          have HP1 := hide (fun w => unhide HP (s.extract 0 k) w hes)
          rw [show (s.extract 0 k).data.toList = numR s.data.toList by rw [hx, (unhide HR).2.1]] at HP1
          have HPZ : Hid (numRf s.data.toList = (⟨0, emp, (parseR (numR s.data.toList)).1, 0, zeroF, 0⟩, k, (parseR (numR s.data.toList)).2)) := hide (by unfold numRf; rw [show (numR s.data.toList).length = k by rw [(unhide HR).2.1, (unhide HR).2.2]])
          generalize (parseR (numR s.data.toList)).1 = xn at HP1 HPZ
          generalize (parseR (numR s.data.toList)).2 = xe at HP1 HPZ
          have i1 : (0 : Int) ≤ (k : Int) := by omega
          have i2 : (k : Int) ≤ (s.size : Int) := by omega
          clear hw hx hes HZ HR HT
          go_wp2_with fail
          refine (unhide HP1 _).mono ?_
          rintro e wk ⟨rfl, bk⟩
          replace R := hide (cells_nx (unhide R) bk)
          replace HB := hide (below_nx (unhide HB) bk)
          clear bk
          obtain ⟨r_0, r_1, r_2, r_3, r_4, r_5, r_6, r_7, r_8, r_9, r_10, r_11, r_12, r_13, r_14, r_15⟩ := cells16 (unhide R)
          obtain ⟨fz_0, fz_1, fz_2, fz_3, fz_4, fz_5, fz_6, fz_7, fz_8, fz_9, fz_10, fz_11, fz_12, fz_13, fz_14, fz_15⟩ := frz16 (unhide R)
          go_wp2
          refine bodyPost_ret (results_c1tt rfl _ _ _ _ _ _ rfl (cells_set16 (unhide R) _ _ _ _ _ _ _ _ _ _ _ _ _ _ _ _) Tryz.underlying47 rfl (by exact infoRtk) _ rfl _ rfl) rfl ?_
          rw [unhide HPZ]
          exact ⟨rfl, below_set16 (unhide HB) (Nat.le_refl _) _ _ _ _ _ _ _ _ _ _ _ _ _ _ _ _⟩
      · rw [h46] at hq
        have hg : inNumC s[k] = true := by unfold inNumC isDg; rw [hq]; simp
        have hs' : Hid ((s.data.toList.take (k + 1)).all inNumC = true) := hide (by rw [take_snoc4 s k hlt, List.all_append, unhide HT, List.all_cons, hg]; rfl)
        clear hg
        clear hq
        go_wp2
        go_roundw
        case rel => exact ⟨k + 1, by omega, by go_num, hs', trivial⟩
        case measure => simp [intOf]; omega
    · have hw : (s.data.toList.drop k).takeWhile inNumC = [] := by rw [List.drop_of_length_le (by rw [unhide HS]; omega)]; rfl
      have HZ := hide (tw_len inNumC s.data.toList k hk (unhide HT) hw)
      have hx := ext_take s k
      have HR : Hid (⟨(s.data.toList.take k).toArray⟩ = s.extract 0 k ∧ numR s.data.toList = s.data.toList.take k ∧ (s.data.toList.take k).length = k) := hide ⟨hx.symm, (unhide HZ).1, by rw [List.length_take, unhide HS]; omega⟩
      have hes : (s.extract 0 k).size ≤ 1000 := by
        rw [hx]
        show (s.data.toList.take k).length ≤ 1000
        rw [List.length_take, unhide HS]; omega
      have HP1 := hide (fun w => unhide HP (s.extract 0 k) w hes)
      rw [show (s.extract 0 k).data.toList = numR s.data.toList by rw [hx, (unhide HR).2.1]] at HP1
      have HPZ : Hid (numRf s.data.toList = (⟨0, emp, (parseR (numR s.data.toList)).1, 0, zeroF, 0⟩, k, (parseR (numR s.data.toList)).2)) := hide (by unfold numRf; rw [show (numR s.data.toList).length = k by rw [(unhide HR).2.1, (unhide HR).2.2]])
      generalize (parseR (numR s.data.toList)).1 = xn at HP1 HPZ
      generalize (parseR (numR s.data.toList)).2 = xe at HP1 HPZ
      have i1 : (0 : Int) ≤ (k : Int) := by omega
      have i2 : (k : Int) ≤ (s.size : Int) := by omega
      clear hw hx hes HZ HR HT
      go_wp2_with fail
      refine (unhide HP1 _).mono ?_
      rintro e wk ⟨rfl, bk⟩
      replace R := hide (cells_nx (unhide R) bk)
      replace HB := hide (below_nx (unhide HB) bk)
      clear bk
      obtain ⟨r_0, r_1, r_2, r_3, r_4, r_5, r_6, r_7, r_8, r_9, r_10, r_11, r_12, r_13, r_14, r_15⟩ := cells16 (unhide R)
      obtain ⟨fz_0, fz_1, fz_2, fz_3, fz_4, fz_5, fz_6, fz_7, fz_8, fz_9, fz_10, fz_11, fz_12, fz_13, fz_14, fz_15⟩ := frz16 (unhide R)
      go_wp2
      refine bodyPost_ret (results_c1tt rfl _ _ _ _ _ _ rfl (cells_set16 (unhide R) _ _ _ _ _ _ _ _ _ _ _ _ _ _ _ _) Tryz.underlying47 rfl (by exact infoRtk) _ rfl _ rfl) rfl ?_
      rw [unhide HPZ]
      exact ⟨rfl, below_set16 (unhide HB) (Nat.le_refl _) _ _ _ _ _ _ _ _ _ _ _ _ _ _ _ _⟩
theorem pre_ext (s p : ByteArray) : ((s.extract 0 p.size).toList == p.toList) = p.data.toList.isPrefixOf s.data.toList := by
  rw [ByteArray.toList_eq, ByteArray.toList_eq, ext_take, Bool.eq_iff_iff, beq_iff_eq, List.isPrefixOf_iff_prefix, List.prefix_iff_eq_take]
  exact eq_comm
theorem pre_long (l p : List UInt8) (h : l.length < p.length) : p.isPrefixOf l = false := by
  rw [← Bool.not_eq_true]
  intro e
  have := prefix_len e
  omega
set_option maxRecDepth 100000 in
set_option maxHeartbeats 4000000 in
theorem fail5_ref (s : ByteArray) (w : World) :
    Calls Tryz.prog 41 #[.string s] w fun e w' => e = .returned (.tuple #[.agg (failTok s.data.toList).1.cells, .int .i64 (failTok s.data.toList).2.1, .int .i64 (failTok s.data.toList).2.2]) ∧ Below w.heap.size w w' := by
  have HSG := hide (fun (f : Int) w => signs_ref f w)
  go_enter Tryz.func41, Tryz.ntmps41
  go_upto_region 1 with fail
  have R := hide (cells_new w 47 #[.int .i64 0, .string ⟨#[]⟩, .int .i64 0, .int .i64 0, .string ⟨#[]⟩, .string ⟨#[]⟩, .int .i64 0, .int .i64 0, .bool false, .bool false, .int .i64 0, .int .i64 0, .bool false, .bool false, .bool false, .int .i64 0])
  have HB : Hid (Below w.heap.size w (w.alloc (.cells #[.int .i64 0, .string ⟨#[]⟩, .int .i64 0, .int .i64 0, .string ⟨#[]⟩, .string ⟨#[]⟩, .int .i64 0, .int .i64 0, .bool false, .bool false, .int .i64 0, .int .i64 0, .bool false, .bool false, .bool false, .int .i64 0] 47))) := hide (below_al _ _)
  generalize hW : w.alloc (.cells #[.int .i64 0, .string ⟨#[]⟩, .int .i64 0, .int .i64 0, .string ⟨#[]⟩, .string ⟨#[]⟩, .int .i64 0, .int .i64 0, .bool false, .bool false, .int .i64 0, .int .i64 0, .bool false, .bool false, .bool false, .int .i64 0] 47) = W0 at R HB ⊢
  clear hW
  go_wp2
  go_loopw [5] (fun i wx => ∃ k : Int, 1 ≤ k ∧ k ≤ 9 ∧ i = .int .i64 k ∧ Hid (NoFit s.data.toList k) ∧ Hid (CellsAt wx w.heap.size 47 #[.int .i64 0, .string ⟨#[]⟩, .int .i64 0, .int .i64 0, .string ⟨#[]⟩, .string ⟨#[]⟩, .int .i64 0, .int .i64 0, .bool false, .bool false, .int .i64 0, .int .i64 0, .bool false, .bool false, .bool false, .int .i64 0]) ∧ Hid (Below w.heap.size w wx)) (fun i _ => 9 - (intOf i).toNat)
  case atStart => exact ⟨1, by omega, by omega, rfl, hide (fun f hf hlt => by unfold failsL at hf; simp only [List.mem_cons, List.not_mem_nil, or_false] at hf; omega), R, HB⟩
  case round =>
    clear R HB
    obtain ⟨k, hk1, hk9, rfl, HN, R, HB⟩ := hrel
    by_cases hlt : k ≤ 8
    · have HS1 := hide (fun w => unhide HSG k w)
      by_cases hle : (signV k).size ≤ s.size
      · have hpe := pre_ext s (signV k)
        have hli : ((signV k).size : Int) ≤ (s.size : Int) := by omega
        have hl0 : (0 : Int) ≤ ((signV k).size : Int) := by omega
        cases hp : (sigL k).isPrefixOf s.data.toList
        · have hn' := hide (fit_step _ k (unhide HN) hp)
          rw [show (signV k).data.toList.isPrefixOf s.data.toList = false from hp] at hpe
          clear hp hle
          generalize signV k = sv at HS1 hpe hli hl0
          go_wp2_with fail
          refine (unhide HS1 _).mono ?_
          rintro e wk ⟨rfl, bk⟩
          replace R := hide (cells_nx (unhide R) bk)
          replace HB := hide (below_nx (unhide HB) bk)
          clear bk
          go_wp2
          go_roundw
          case rel => exact ⟨k + 1, by omega, by omega, by go_num, hn', R, HB⟩
          case measure => simp [intOf]; omega
        · have HF := hide (fit_here _ k (fit_mem k hk1 (by omega)) (unhide HN) hp)
          have ET : Hid (failTok s.data.toList = (⟨2, emp, 0, k, zeroF, 0⟩, (sigL k).length, 0)) := hide (by unfold failTok; rw [unhide HF])
          rw [show (signV k).data.toList.isPrefixOf s.data.toList = true from hp] at hpe
          have hz : Hid (((signV k).size : Int) = (((sigL k).length : Nat) : Int)) := hide rfl
          clear hp hle HF
          generalize signV k = sv at HS1 hpe hli hl0 hz
          go_wp2_with fail
          refine (unhide HS1 _).mono ?_
          rintro e wk ⟨rfl, bk⟩
          replace R := hide (cells_nx (unhide R) bk)
          replace HB := hide (below_nx (unhide HB) bk)
          clear bk
          obtain ⟨r_0, r_1, r_2, r_3, r_4, r_5, r_6, r_7, r_8, r_9, r_10, r_11, r_12, r_13, r_14, r_15⟩ := cells16 (unhide R)
          obtain ⟨fz_0, fz_1, fz_2, fz_3, fz_4, fz_5, fz_6, fz_7, fz_8, fz_9, fz_10, fz_11, fz_12, fz_13, fz_14, fz_15⟩ := frz16 (unhide R)
          go_wp2
          refine bodyPost_ret (results_c1tt rfl _ _ _ _ _ _ rfl (cells_set16 (unhide R) _ _ _ _ _ _ _ _ _ _ _ _ _ _ _ _) Tryz.underlying47 rfl (by exact infoRtk) _ rfl _ rfl) rfl ?_
          rw [unhide ET]
          refine ⟨?_, below_set16 (unhide HB) (Nat.le_refl _) _ _ _ _ _ _ _ _ _ _ _ _ _ _ _ _⟩
          rw [unhide hz]
          rfl
      · have hn' := hide (fit_step _ k (unhide HN) (pre_long _ _ (by
          have h1 : (sigL k).length = (signV k).size := rfl
          have h2 : s.data.toList.length = s.size := rfl
          omega)))
        have hli : ¬ ((signV k).size : Int) ≤ (s.size : Int) := by omega
        have hlj : (s.size : Int) < ((signV k).size : Int) := by omega
        have hld : decide (((signV k).size : Int) ≤ (s.size : Int)) = false := decide_eq_false hli
        clear hle
        generalize signV k = sv at HS1 hli hlj hld
        go_wp2_with fail
        refine (unhide HS1 _).mono ?_
        rintro e wk ⟨rfl, bk⟩
        replace R := hide (cells_nx (unhide R) bk)
        replace HB := hide (below_nx (unhide HB) bk)
        clear bk
        go_wp2
        go_roundw
        case rel => exact ⟨k + 1, by omega, by omega, by go_num, hn', R, HB⟩
        case measure => simp [intOf]; omega
    · have hk : k = 9 := by omega
      subst hk
      have ET : Hid (failTok s.data.toList = badT 4) := hide (by unfold failTok; rw [fit_none _ (unhide HN)])
      obtain ⟨r_0, r_1, r_2, r_3, r_4, r_5, r_6, r_7, r_8, r_9, r_10, r_11, r_12, r_13, r_14, r_15⟩ := cells16 (unhide R)
      obtain ⟨fz_0, fz_1, fz_2, fz_3, fz_4, fz_5, fz_6, fz_7, fz_8, fz_9, fz_10, fz_11, fz_12, fz_13, fz_14, fz_15⟩ := frz16 (unhide R)
      go_wp2
      refine bodyPost_ret (results_c1tt rfl _ _ _ _ _ _ rfl (cells_set16 (unhide R) _ _ _ _ _ _ _ _ _ _ _ _ _ _ _ _) Tryz.underlying47 rfl (by exact infoRtk) _ rfl _ rfl) rfl ?_
      rw [unhide ET]
      exact ⟨rfl, below_set16 (unhide HB) (Nat.le_refl _) _ _ _ _ _ _ _ _ _ _ _ _ _ _ _ _⟩
end Go.Proofs.YtgoaefpkhjbkjaaGreatDoor
