/- The walk of LexReads. -/
import Derived.Test.YtgoaefpkhjbkjaaGreatDoorLzZ
import Derived.Test.YtgoaefpkhjbkjaaGreatDoorLyL
import Derived.Deep.CutRange
namespace Go.Proofs.YtgoaefpkhjbkjaaGreatDoor
open Go.RowKit

set_option maxRecDepth 100000 in
set_option maxHeartbeats 8000000 in
theorem lexReads_law (s : ByteArray) (w : World) (hs : s.size ≤ maxLen) (he : Env5 w) :
    Calls Tryz.prog 3 #[.string s] w fun e w' => e = .returned (.bool true) ∧ Below w.heap.size w w' := by
  have HE := hide he
  clear he
  unfold maxLen at hs
  go_enter Tryz.func3, Tryz.ntmps3
  go_upto_region 2 with fail
  have HZ := hide (cut600 s)
  generalize s.extract 0 (min (s.size : Int) 600).toNat = b at HZ ⊢
  have HP := hide (fun w he => lex5_val b w (by have := unhide HZ; omega) he)
  have HQ := hide (fun w => lex5_ref b w (by have := unhide HZ; omega))
  have HC := hide (lexT_count b.data.toList)
  generalize lexT b.data.toList = X at HP HQ HC
  obtain ⟨ts, p, x⟩ := X
  have hcnt : ts.length ≤ 512 := unhide HC
  clear HC HZ
  have HWK := hide wakes5
  have HSM := hide (fun (t : Tk) w => same5 t w)
  go_wp2_with fail
  refine (unhide HP _ (unhide HE)).mono ?_
  rintro e w1 ⟨v, rfl, HT, bb⟩
  have HT : TokRow 41 w1 w.heap.size v ts := HT
  obtain ⟨a, cap, rfl, _, hin⟩ := toks_of_row HT
  have HI1 := hide hin
  have HB := hide bb
  clear HT hin bb HP
  go_wp2_with fail
  refine (unhide HQ _).mono ?_
  rintro e w2 ⟨v, rfl, HT, bb⟩
  have HT : TokRow 47 w2 w1.heap.size v ts := HT
  obtain ⟨a2, cap2, rfl, _, hin⟩ := toks_of_row HT
  have HI2 := hide hin
  replace HI1 := hide (toks_below (unhide HI1) bb)
  replace HB := hide (below_nx (unhide HB) bb)
  clear HT hin bb HQ
  simp only []
  go_wp2_with fail
  refine (unhide HWK _ ((unhide HE).below (unhide HB))).mono ?_
  rintro e w3 ⟨rfl, bb⟩
  replace HI1 := hide (toks_below (unhide HI1) bb)
  replace HI2 := hide (toks_below (unhide HI2) bb)
  replace HB := hide (below_nx (unhide HB) bb)
  clear bb HWK
  obtain ⟨N, hN⟩ : ∃ N, ts.length = N := ⟨_, rfl⟩
  rw [hN] at hcnt ⊢
  have HN := hide hN
  clear hN
  go_wp2_with fail
  go_wp2
  go_loopw [48] (fun i wr => ∃ k : Nat, k ≤ N ∧ i = .int .i64 (k : Int) ∧ Hid (ToksIn wr a ts) ∧ Hid (ToksIn wr a2 ts) ∧ Hid (Below w.heap.size w wr)) (fun i _ => N - (intOf i).toNat)
  case atStart => exact ⟨0, Nat.zero_le _, rfl, HI1, HI2, HB⟩
  case round =>
    clear HI1 HI2 HB
    obtain ⟨k, hk, rfl, HI1, HI2, HB⟩ := hrel
    by_cases hkl : k < N
    · obtain ⟨t, ht⟩ : ∃ t, ts[k]? = some t := ⟨_, List.getElem?_eq_getElem (by rw [unhide HN]; exact hkl)⟩
      have HHT := hide ht
      clear ht
      obtain ⟨g, off, rfl, TA⟩ := toksAt_of (unhide HI1) k (by rw [unhide HN]; exact hkl)
      obtain ⟨g2, off2, rfl, TB⟩ := toksAt_of (unhide HI2) k (by rw [unhide HN]; exact hkl)
      replace TA := hide TA
      replace TB := hide TB
      have HSM1 := hide (fun w => unhide HSM t w)
      unfold Tk.cells at HSM1
      clear HI1 HI2
      go_upto_region 9 with fail
      go_cut [60] from 49 to 59 (fun v wx => v = .bool false ∧ Hid (ToksAt wx g off ts) ∧ Hid (ToksAt wx g2 off2 ts) ∧ Hid (Below w.heap.size w wx))
      case first =>
        replace TA := hide (toksAt_drew (unhide TA))
        replace TB := hide (toksAt_drew (unhide TB))
        replace HB := hide (unhide HB).drew
        obtain ⟨a_0, a_1, a_2, a_3, a_4, a_5, a_6, a_7, a_8, a_9, a_10, a_11, a_12, a_13, a_14, a_15⟩ := toks_at (unhide TA).2 k t (unhide HHT)
        obtain ⟨b_0, b_1, b_2, b_3, b_4, b_5, b_6, b_7, b_8, b_9, b_10, b_11, b_12, b_13, b_14, b_15⟩ := toks_at (unhide TB).2 k t (unhide HHT)
        go_region_held3 (fun w' => w'.cell? ⟨g, off + k * 16, none⟩ = some (.int .i64 t.kind) ∧ w'.cell? ⟨g, off + k * 16 + 1, none⟩ = some (.string t.text) ∧ w'.cell? ⟨g, off + k * 16 + 2, none⟩ = some (.int .i64 t.num) ∧ w'.cell? ⟨g, off + k * 16 + 3, none⟩ = some (.int .i64 t.fail) ∧ w'.cell? ⟨g, off + k * 16 + 4, none⟩ = some (.string t.ref.book) ∧ w'.cell? ⟨g, off + k * 16 + 5, none⟩ = some (.string t.ref.sheet) ∧ w'.cell? ⟨g, off + k * 16 + 6, none⟩ = some (.int .i64 t.ref.a.col) ∧ w'.cell? ⟨g, off + k * 16 + 7, none⟩ = some (.int .i64 t.ref.a.row) ∧ w'.cell? ⟨g, off + k * 16 + 8, none⟩ = some (.bool t.ref.a.fc) ∧ w'.cell? ⟨g, off + k * 16 + 9, none⟩ = some (.bool t.ref.a.fr) ∧ w'.cell? ⟨g, off + k * 16 + 10, none⟩ = some (.int .i64 t.ref.b.col) ∧ w'.cell? ⟨g, off + k * 16 + 11, none⟩ = some (.int .i64 t.ref.b.row) ∧ w'.cell? ⟨g, off + k * 16 + 12, none⟩ = some (.bool t.ref.b.fc) ∧ w'.cell? ⟨g, off + k * 16 + 13, none⟩ = some (.bool t.ref.b.fr) ∧ w'.cell? ⟨g, off + k * 16 + 14, none⟩ = some (.bool t.ref.wide) ∧ w'.cell? ⟨g, off + k * 16 + 15, none⟩ = some (.int .i64 t.place) ∧ w'.cell? ⟨g2, off2 + k * 16, none⟩ = some (.int .i64 t.kind) ∧ w'.cell? ⟨g2, off2 + k * 16 + 1, none⟩ = some (.string t.text) ∧ w'.cell? ⟨g2, off2 + k * 16 + 2, none⟩ = some (.int .i64 t.num) ∧ w'.cell? ⟨g2, off2 + k * 16 + 3, none⟩ = some (.int .i64 t.fail) ∧ w'.cell? ⟨g2, off2 + k * 16 + 4, none⟩ = some (.string t.ref.book) ∧ w'.cell? ⟨g2, off2 + k * 16 + 5, none⟩ = some (.string t.ref.sheet) ∧ w'.cell? ⟨g2, off2 + k * 16 + 6, none⟩ = some (.int .i64 t.ref.a.col) ∧ w'.cell? ⟨g2, off2 + k * 16 + 7, none⟩ = some (.int .i64 t.ref.a.row) ∧ w'.cell? ⟨g2, off2 + k * 16 + 8, none⟩ = some (.bool t.ref.a.fc) ∧ w'.cell? ⟨g2, off2 + k * 16 + 9, none⟩ = some (.bool t.ref.a.fr) ∧ w'.cell? ⟨g2, off2 + k * 16 + 10, none⟩ = some (.int .i64 t.ref.b.col) ∧ w'.cell? ⟨g2, off2 + k * 16 + 11, none⟩ = some (.int .i64 t.ref.b.row) ∧ w'.cell? ⟨g2, off2 + k * 16 + 12, none⟩ = some (.bool t.ref.b.fc) ∧ w'.cell? ⟨g2, off2 + k * 16 + 13, none⟩ = some (.bool t.ref.b.fr) ∧ w'.cell? ⟨g2, off2 + k * 16 + 14, none⟩ = some (.bool t.ref.wide) ∧ w'.cell? ⟨g2, off2 + k * 16 + 15, none⟩ = some (.int .i64 t.place)) (first | exact ⟨a_0, a_1, a_2, a_3, a_4, a_5, a_6, a_7, a_8, a_9, a_10, a_11, a_12, a_13, a_14, a_15, b_0, b_1, b_2, b_3, b_4, b_5, b_6, b_7, b_8, b_9, b_10, b_11, b_12, b_13, b_14, b_15⟩ | go_keep)
          (first
            | (go_at_call 11; refine (unhide HSM1 _).mono ?_; rintro e yy ⟨rfl, zz⟩; replace TA := hide (toksAt_nx (unhide TA) zz); replace TB := hide (toksAt_nx (unhide TB) zz); replace HB := hide (below_nx (unhide HB) zz); clear zz a_0 a_1 a_2 a_3 a_4 a_5 a_6 a_7 a_8 a_9 a_10 a_11 a_12 a_13 a_14 a_15 b_0 b_1 b_2 b_3 b_4 b_5 b_6 b_7 b_8 b_9 b_10 b_11 b_12 b_13 b_14 b_15; obtain ⟨a_0, a_1, a_2, a_3, a_4, a_5, a_6, a_7, a_8, a_9, a_10, a_11, a_12, a_13, a_14, a_15⟩ := toks_at (unhide TA).2 k t (unhide HHT); obtain ⟨b_0, b_1, b_2, b_3, b_4, b_5, b_6, b_7, b_8, b_9, b_10, b_11, b_12, b_13, b_14, b_15⟩ := toks_at (unhide TB).2 k t (unhide HHT)))
        all_goals (try go_wp2_with fail)
        all_goals go_meet
        all_goals exact ⟨rfl, TA, TB, HB⟩
      case rest =>
        obtain ⟨rfl, TA', TB', HB'⟩ := hcut
        go_wp2
        go_roundw
        case rel => exact ⟨k + 1, by omega, by go_num, hide (toksAt_in (unhide TA')), hide (toksAt_in (unhide TB')), HB'⟩
        case measure => simp [intOf]; omega
    · go_wp2
      go_ret
      exact ⟨rfl, unhide HB⟩
end Go.Proofs.YtgoaefpkhjbkjaaGreatDoor
