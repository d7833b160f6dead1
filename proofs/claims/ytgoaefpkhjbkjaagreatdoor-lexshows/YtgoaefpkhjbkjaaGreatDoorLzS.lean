/- The walk of LexShows. -/
import Derived.Test.YtgoaefpkhjbkjaaGreatDoorLzZ
import Derived.Test.YtgoaefpkhjbkjaaGreatDoorLyL
import Derived.Test.YtgoaefpkhjbkjaaGreatDoorLyM
namespace Go.Proofs.YtgoaefpkhjbkjaaGreatDoor
open Go.RowKit

set_option maxRecDepth 100000 in
set_option maxHeartbeats 8000000 in
theorem lexShows_law (s : ByteArray) (k : Int) (w : World) (hs : s.size ≤ maxLen) (he : Env5 w) :
    Calls Tryz.prog 4 #[.string s, .int .i64 k] w fun e w' => e = .returned (.bool true) ∧ Below w.heap.size w w' := by
  have HE := hide he
  clear he
  unfold maxLen at hs
  go_enter Tryz.func4, Tryz.ntmps4
  go_upto_region 2 with fail
  have HZ := hide (cut600 s)
  generalize s.extract 0 (min (s.size : Int) 600).toNat = b at HZ ⊢
  have hbs : b.size ≤ 600 := unhide HZ
  have HP := hide (fun w he => lex5_val b w (by omega) he)
  have HQ := hide (fun w => lex5_ref b w (by omega))
  have HC := hide (lexT_count b.data.toList)
  have HTX := hide (lexT_text b.data.toList (show b.size ≤ 1000 by omega))
  generalize lexT b.data.toList = X at HP HQ HC HTX
  obtain ⟨ts, p, x⟩ := X
  have hcnt : ts.length ≤ 1000 := Nat.le_trans (unhide HC) (by decide)
  have HTX : Hid (∀ t ∈ ts, t.text.size ≤ 1000) := HTX
  clear HC HZ
  have HWK := hide wakes5
  have HJ1 := hide (fun a cap w he hin => join5_val a cap ts w he hin hcnt (unhide HTX))
  have HJ2 := hide (fun a cap w hin => join5_ref a cap ts w hin hcnt (unhide HTX))
  have HS1 := hide (fun w he => show5_val ⟨k, b, 0, 0, zeroF, 0⟩ w he (show b.size ≤ 1000 by omega))
  have HS2 := hide (fun w => show5_ref ⟨k, b, 0, 0, zeroF, 0⟩ w (show b.size ≤ 1000 by omega))
  generalize (⟨(joinL ts).toArray⟩ : ByteArray) = jb at HJ1 HJ2
  generalize (⟨(showL ⟨k, b, 0, 0, zeroF, 0⟩).toArray⟩ : ByteArray) = sb at HS1 HS2
  rw [show Tk.cells ⟨k, b, 0, 0, zeroF, 0⟩ = #[.int .i64 k, .string b, .int .i64 0, .int .i64 0, .string ⟨#[]⟩, .string ⟨#[]⟩, .int .i64 0, .int .i64 0, .bool false, .bool false, .int .i64 0, .int .i64 0, .bool false, .bool false, .bool false, .int .i64 0] from rfl] at HS1 HS2
  go_wp2_with fail
  refine (unhide HP _ (unhide HE)).mono ?_
  rintro e w1 ⟨v, rfl, HT, bb⟩
  have HT : TokRow 41 w1 w.heap.size v ts := HT
  obtain ⟨a, cap, rfl, _, hin⟩ := toks_of_row HT
  have HI1 := hide hin
  have HB := hide bb
  clear HT hin bb HP
  go_wp2_with fail
  refine (unhide HQ _).mono ?_
  rintro e w2 ⟨v, rfl, HT, bb⟩
  have HT : TokRow 47 w2 w1.heap.size v ts := HT
  obtain ⟨a2, cap2, rfl, _, hin⟩ := toks_of_row HT
  have HI2 := hide hin
  replace HI1 := hide (toks_below (unhide HI1) bb)
  replace HB := hide (below_nx (unhide HB) bb)
  clear bb
  clear HT hin HQ
  simp only []
  go_upto_region 5 with fail
  have V := hide (cells_new w2 41 #[.int .i64 k, .string b, .int .i64 0, .int .i64 0, .string ⟨#[]⟩, .string ⟨#[]⟩, .int .i64 0, .int .i64 0, .bool false, .bool false, .int .i64 0, .int .i64 0, .bool false, .bool false, .bool false, .int .i64 0])
  replace HI1 := hide (toks_below (unhide HI1) (below_al w2 (.cells #[.int .i64 k, .string b, .int .i64 0, .int .i64 0, .string ⟨#[]⟩, .string ⟨#[]⟩, .int .i64 0, .int .i64 0, .bool false, .bool false, .int .i64 0, .int .i64 0, .bool false, .bool false, .bool false, .int .i64 0] 41)))
  replace HI2 := hide (toks_below (unhide HI2) (below_al w2 (.cells #[.int .i64 k, .string b, .int .i64 0, .int .i64 0, .string ⟨#[]⟩, .string ⟨#[]⟩, .int .i64 0, .int .i64 0, .bool false, .bool false, .int .i64 0, .int .i64 0, .bool false, .bool false, .bool false, .int .i64 0] 41)))
  replace HB := hide (below_nx (unhide HB) (below_al w2 (.cells #[.int .i64 k, .string b, .int .i64 0, .int .i64 0, .string ⟨#[]⟩, .string ⟨#[]⟩, .int .i64 0, .int .i64 0, .bool false, .bool false, .int .i64 0, .int .i64 0, .bool false, .bool false, .bool false, .int .i64 0] 41)))
  generalize hW : w2.alloc (.cells #[.int .i64 k, .string b, .int .i64 0, .int .i64 0, .string ⟨#[]⟩, .string ⟨#[]⟩, .int .i64 0, .int .i64 0, .bool false, .bool false, .int .i64 0, .int .i64 0, .bool false, .bool false, .bool false, .int .i64 0] 41) = W3 at V HI1 HI2 HB ⊢
  clear hW
  go_wp2_with fail
  refine (unhide HWK _ ((unhide HE).below (unhide HB))).mono ?_
  rintro e w3 ⟨rfl, bb⟩
  replace HI1 := hide (toks_below (unhide HI1) bb)
  replace HI2 := hide (toks_below (unhide HI2) bb)
  replace V := hide (cells_nx (unhide V) bb)
  replace HB := hide (below_nx (unhide HB) bb)
  clear bb
  go_wp2_with fail
  refine (unhide HJ1 _ _ _ ((unhide HE).below (unhide HB)) (unhide HI1)).mono ?_
  rintro e w4 ⟨rfl, bb⟩
  replace HI1 := hide (toks_below (unhide HI1) bb)
  replace HI2 := hide (toks_below (unhide HI2) bb)
  replace V := hide (cells_nx (unhide V) bb)
  replace HB := hide (below_nx (unhide HB) bb)
  clear bb
  go_wp2_with fail
  refine (unhide HJ2 _ _ _ (unhide HI2)).mono ?_
  rintro e w5 ⟨rfl, bb⟩
  replace HI1 := hide (toks_below (unhide HI1) bb)
  replace HI2 := hide (toks_below (unhide HI2) bb)
  replace V := hide (cells_nx (unhide V) bb)
  replace HB := hide (below_nx (unhide HB) bb)
  clear bb
  obtain ⟨v_0, v_1, v_2, v_3, v_4, v_5, v_6, v_7, v_8, v_9, v_10, v_11, v_12, v_13, v_14, v_15⟩ := cells16 (unhide V)
  go_wp2_with fail
  refine (unhide HS1 _ ((unhide HE).below (unhide HB))).mono ?_
  rintro e w6 ⟨rfl, bb⟩
  clear v_0 v_1 v_2 v_3 v_4 v_5 v_6 v_7 v_8 v_9 v_10 v_11 v_12 v_13 v_14 v_15
  replace HI1 := hide (toks_below (unhide HI1) bb)
  replace HI2 := hide (toks_below (unhide HI2) bb)
  replace V := hide (cells_nx (unhide V) bb)
  replace HB := hide (below_nx (unhide HB) bb)
  clear bb
  go_wp2_with fail
  refine (unhide HS2 _).mono ?_
  rintro e w7 ⟨rfl, bb⟩
  replace HI1 := hide (toks_below (unhide HI1) bb)
  replace HI2 := hide (toks_below (unhide HI2) bb)
  replace V := hide (cells_nx (unhide V) bb)
  replace HB := hide (below_nx (unhide HB) bb)
  clear bb
  go_wp2
  go_ret
  exact ⟨rfl, unhide HB⟩
end Go.Proofs.YtgoaefpkhjbkjaaGreatDoor
