/- The walks of the reference's one. -/
import Derived.Test.YtgoaefpkhjbkjaaGreatDoorLxW
import Derived.Test.YtgoaefpkhjbkjaaGreatDoorLxY
import Derived.Deep.CutRange
namespace Go.Proofs.YtgoaefpkhjbkjaaGreatDoor
open Go.RowKit

set_option maxRecDepth 100000 in
set_option maxHeartbeats 4000000 in
theorem or_num (s : ByteArray) (w : World) (cs : Array Value) (n x : Int) (h0 : 0 < s.size) (HI : Hid (IsTk cs)) (HD : Hid (∀ w : World, Calls Tryz.prog 38 #[.int .u8 (s[0].toNat : Int)] w fun e w' => e = .returned (.bool true) ∧ w' = w)) (HK : Hid (∀ w : World, Calls Tryz.prog 39 #[.string s] w fun e w' => e = .returned (.tuple #[.agg cs, .int .i64 n, .int .i64 x]) ∧ Below w.heap.size w w')) :
    Calls Tryz.prog 18 #[.string s] w fun e w' => e = .returned (.tuple #[.agg cs, .int .i64 n, .int .i64 x]) ∧ Below w.heap.size w w' := by
  go_enter Tryz.func18, Tryz.ntmps18
  go_upto_region 1 with fail
  have R := hide (cells_new w 47 #[.int .i64 0, .string ⟨#[]⟩, .int .i64 0, .int .i64 0, .string ⟨#[]⟩, .string ⟨#[]⟩, .int .i64 0, .int .i64 0, .bool false, .bool false, .int .i64 0, .int .i64 0, .bool false, .bool false, .bool false, .int .i64 0])
  have HB : Hid (Below w.heap.size w (w.alloc (.cells #[.int .i64 0, .string ⟨#[]⟩, .int .i64 0, .int .i64 0, .string ⟨#[]⟩, .string ⟨#[]⟩, .int .i64 0, .int .i64 0, .bool false, .bool false, .int .i64 0, .int .i64 0, .bool false, .bool false, .bool false, .int .i64 0] 47))) := hide (below_al _ _)
  generalize hW : w.alloc (.cells #[.int .i64 0, .string ⟨#[]⟩, .int .i64 0, .int .i64 0, .string ⟨#[]⟩, .string ⟨#[]⟩, .int .i64 0, .int .i64 0, .bool false, .bool false, .int .i64 0, .int .i64 0, .bool false, .bool false, .bool false, .int .i64 0] 47) = W0 at R HB ⊢
  clear hW
  go_wp2_with fail
  refine (unhide HD _).mono ?_
  rintro e wk1 ⟨rfl, rfl⟩
  go_wp2_with fail
  refine (unhide HK _).mono ?_
  rintro e wk2 ⟨rfl, bk2⟩
  replace R := hide (cells_nx (unhide R) bk2)
  replace HB := hide (below_nx (unhide HB) bk2)
  clear bk2
  have z1 : cs.size = 16 := (unhide HI).1
  have st1 := tk_store (P := Tryz.prog) (unhide R) rfl (unhide HI)
  go_wp2
  refine bodyPost_ret (results_c1tt rfl _ _ _ _ _ _ rfl (cells_row (unhide R) cs) Tryz.underlying47 rfl (by rw [z1]; exact infoRtk) _ rfl _ rfl) rfl ?_
  exact ⟨rfl, below_setRow (unhide HB) (Nat.le_refl _) _⟩
set_option maxRecDepth 100000 in
set_option maxHeartbeats 4000000 in
theorem or_text (s : ByteArray) (w : World) (cs : Array Value) (n x : Int) (h0 : 0 < s.size) (HI : Hid (IsTk cs)) (HD : Hid (∀ w : World, Calls Tryz.prog 38 #[.int .u8 (s[0].toNat : Int)] w fun e w' => e = .returned (.bool false) ∧ w' = w)) (b34 : ((s[0].toNat : Int) == 34) = true) (HK : Hid (∀ w : World, Calls Tryz.prog 40 #[.string s] w fun e w' => e = .returned (.tuple #[.agg cs, .int .i64 n, .int .i64 x]) ∧ Below w.heap.size w w')) :
    Calls Tryz.prog 18 #[.string s] w fun e w' => e = .returned (.tuple #[.agg cs, .int .i64 n, .int .i64 x]) ∧ Below w.heap.size w w' := by
  go_enter Tryz.func18, Tryz.ntmps18
  go_upto_region 1 with fail
  have R := hide (cells_new w 47 #[.int .i64 0, .string ⟨#[]⟩, .int .i64 0, .int .i64 0, .string ⟨#[]⟩, .string ⟨#[]⟩, .int .i64 0, .int .i64 0, .bool false, .bool false, .int .i64 0, .int .i64 0, .bool false, .bool false, .bool false, .int .i64 0])
  have HB : Hid (Below w.heap.size w (w.alloc (.cells #[.int .i64 0, .string ⟨#[]⟩, .int .i64 0, .int .i64 0, .string ⟨#[]⟩, .string ⟨#[]⟩, .int .i64 0, .int .i64 0, .bool false, .bool false, .int .i64 0, .int .i64 0, .bool false, .bool false, .bool false, .int .i64 0] 47))) := hide (below_al _ _)
  generalize hW : w.alloc (.cells #[.int .i64 0, .string ⟨#[]⟩, .int .i64 0, .int .i64 0, .string ⟨#[]⟩, .string ⟨#[]⟩, .int .i64 0, .int .i64 0, .bool false, .bool false, .int .i64 0, .int .i64 0, .bool false, .bool false, .bool false, .int .i64 0] 47) = W0 at R HB ⊢
  clear hW
  go_wp2_with fail
  refine (unhide HD _).mono ?_
  rintro e wk1 ⟨rfl, rfl⟩
  go_wp2_with fail
  refine (unhide HK _).mono ?_
  rintro e wk2 ⟨rfl, bk2⟩
  replace R := hide (cells_nx (unhide R) bk2)
  replace HB := hide (below_nx (unhide HB) bk2)
  clear bk2
  have z1 : cs.size = 16 := (unhide HI).1
  have st1 := tk_store (P := Tryz.prog) (unhide R) rfl (unhide HI)
  go_wp2
  refine bodyPost_ret (results_c1tt rfl _ _ _ _ _ _ rfl (cells_row (unhide R) cs) Tryz.underlying47 rfl (by rw [z1]; exact infoRtk) _ rfl _ rfl) rfl ?_
  exact ⟨rfl, below_setRow (unhide HB) (Nat.le_refl _) _⟩
set_option maxRecDepth 100000 in
set_option maxHeartbeats 4000000 in
theorem or_fail (s : ByteArray) (w : World) (cs : Array Value) (n x : Int) (h0 : 0 < s.size) (HI : Hid (IsTk cs)) (HD : Hid (∀ w : World, Calls Tryz.prog 38 #[.int .u8 (s[0].toNat : Int)] w fun e w' => e = .returned (.bool false) ∧ w' = w)) (b34 : ((s[0].toNat : Int) == 34) = false) (b35 : ((s[0].toNat : Int) == 35) = true) (HK : Hid (∀ w : World, Calls Tryz.prog 41 #[.string s] w fun e w' => e = .returned (.tuple #[.agg cs, .int .i64 n, .int .i64 x]) ∧ Below w.heap.size w w')) :
    Calls Tryz.prog 18 #[.string s] w fun e w' => e = .returned (.tuple #[.agg cs, .int .i64 n, .int .i64 x]) ∧ Below w.heap.size w w' := by
  go_enter Tryz.func18, Tryz.ntmps18
  go_upto_region 1 with fail
  have R := hide (cells_new w 47 #[.int .i64 0, .string ⟨#[]⟩, .int .i64 0, .int .i64 0, .string ⟨#[]⟩, .string ⟨#[]⟩, .int .i64 0, .int .i64 0, .bool false, .bool false, .int .i64 0, .int .i64 0, .bool false, .bool false, .bool false, .int .i64 0])
  have HB : Hid (Below w.heap.size w (w.alloc (.cells #[.int .i64 0, .string ⟨#[]⟩, .int .i64 0, .int .i64 0, .string ⟨#[]⟩, .string ⟨#[]⟩, .int .i64 0, .int .i64 0, .bool false, .bool false, .int .i64 0, .int .i64 0, .bool false, .bool false, .bool false, .int .i64 0] 47))) := hide (below_al _ _)
  generalize hW : w.alloc (.cells #[.int .i64 0, .string ⟨#[]⟩, .int .i64 0, .int .i64 0, .string ⟨#[]⟩, .string ⟨#[]⟩, .int .i64 0, .int .i64 0, .bool false, .bool false, .int .i64 0, .int .i64 0, .bool false, .bool false, .bool false, .int .i64 0] 47) = W0 at R HB ⊢
  clear hW
  go_wp2_with fail
  refine (unhide HD _).mono ?_
  rintro e wk1 ⟨rfl, rfl⟩
  go_wp2_with fail
  refine (unhide HK _).mono ?_
  rintro e wk2 ⟨rfl, bk2⟩
  replace R := hide (cells_nx (unhide R) bk2)
  replace HB := hide (below_nx (unhide HB) bk2)
  clear bk2
  have z1 : cs.size = 16 := (unhide HI).1
  have st1 := tk_store (P := Tryz.prog) (unhide R) rfl (unhide HI)
  go_wp2
  refine bodyPost_ret (results_c1tt rfl _ _ _ _ _ _ rfl (cells_row (unhide R) cs) Tryz.underlying47 rfl (by rw [z1]; exact infoRtk) _ rfl _ rfl) rfl ?_
  exact ⟨rfl, below_setRow (unhide HB) (Nat.le_refl _) _⟩
set_option maxRecDepth 100000 in
set_option maxHeartbeats 4000000 in
theorem or_let (s : ByteArray) (w : World) (cs : Array Value) (n x : Int) (h0 : 0 < s.size) (HI : Hid (IsTk cs)) (HD : Hid (∀ w : World, Calls Tryz.prog 38 #[.int .u8 (s[0].toNat : Int)] w fun e w' => e = .returned (.bool false) ∧ w' = w)) (b34 : ((s[0].toNat : Int) == 34) = false) (b35 : ((s[0].toNat : Int) == 35) = false) (HL : Hid (∀ w : World, Calls Tryz.prog 42 #[.int .u8 (s[0].toNat : Int)] w fun e w' => e = .returned (.bool true) ∧ w' = w)) (HK : Hid (∀ w : World, Calls Tryz.prog 43 #[.string s] w fun e w' => e = .returned (.tuple #[.agg cs, .int .i64 n, .int .i64 x]) ∧ Below w.heap.size w w')) :
    Calls Tryz.prog 18 #[.string s] w fun e w' => e = .returned (.tuple #[.agg cs, .int .i64 n, .int .i64 x]) ∧ Below w.heap.size w w' := by
  go_enter Tryz.func18, Tryz.ntmps18
  go_upto_region 1 with fail
  have R := hide (cells_new w 47 #[.int .i64 0, .string ⟨#[]⟩, .int .i64 0, .int .i64 0, .string ⟨#[]⟩, .string ⟨#[]⟩, .int .i64 0, .int .i64 0, .bool false, .bool false, .int .i64 0, .int .i64 0, .bool false, .bool false, .bool false, .int .i64 0])
  have HB : Hid (Below w.heap.size w (w.alloc (.cells #[.int .i64 0, .string ⟨#[]⟩, .int .i64 0, .int .i64 0, .string ⟨#[]⟩, .string ⟨#[]⟩, .int .i64 0, .int .i64 0, .bool false, .bool false, .int .i64 0, .int .i64 0, .bool false, .bool false, .bool false, .int .i64 0] 47))) := hide (below_al _ _)
  generalize hW : w.alloc (.cells #[.int .i64 0, .string ⟨#[]⟩, .int .i64 0, .int .i64 0, .string ⟨#[]⟩, .string ⟨#[]⟩, .int .i64 0, .int .i64 0, .bool false, .bool false, .int .i64 0, .int .i64 0, .bool false, .bool false, .bool false, .int .i64 0] 47) = W0 at R HB ⊢
  clear hW
  go_wp2_with fail
  refine (unhide HD _).mono ?_
  rintro e wk1 ⟨rfl, rfl⟩
  go_wp2_with fail
  refine (unhide HL _).mono ?_
  rintro e wk2 ⟨rfl, rfl⟩
  go_wp2_with fail
  refine (unhide HK _).mono ?_
  rintro e wk3 ⟨rfl, bk3⟩
  replace R := hide (cells_nx (unhide R) bk3)
  replace HB := hide (below_nx (unhide HB) bk3)
  clear bk3
  have z1 : cs.size = 16 := (unhide HI).1
  have st1 := tk_store (P := Tryz.prog) (unhide R) rfl (unhide HI)
  go_wp2
  refine bodyPost_ret (results_c1tt rfl _ _ _ _ _ _ rfl (cells_row (unhide R) cs) Tryz.underlying47 rfl (by rw [z1]; exact infoRtk) _ rfl _ rfl) rfl ?_
  exact ⟨rfl, below_setRow (unhide HB) (Nat.le_refl _) _⟩
set_option maxRecDepth 100000 in
set_option maxHeartbeats 4000000 in
theorem or_h95 (s : ByteArray) (w : World) (cs : Array Value) (n x : Int) (h0 : 0 < s.size) (HI : Hid (IsTk cs)) (HD : Hid (∀ w : World, Calls Tryz.prog 38 #[.int .u8 (s[0].toNat : Int)] w fun e w' => e = .returned (.bool false) ∧ w' = w)) (b34 : ((s[0].toNat : Int) == 34) = false) (b35 : ((s[0].toNat : Int) == 35) = false) (HL : Hid (∀ w : World, Calls Tryz.prog 42 #[.int .u8 (s[0].toNat : Int)] w fun e w' => e = .returned (.bool false) ∧ w' = w)) (b95 : ((s[0].toNat : Int) == 95) = true) (HK : Hid (∀ w : World, Calls Tryz.prog 43 #[.string s] w fun e w' => e = .returned (.tuple #[.agg cs, .int .i64 n, .int .i64 x]) ∧ Below w.heap.size w w')) :
    Calls Tryz.prog 18 #[.string s] w fun e w' => e = .returned (.tuple #[.agg cs, .int .i64 n, .int .i64 x]) ∧ Below w.heap.size w w' := by
  go_enter Tryz.func18, Tryz.ntmps18
  go_upto_region 1 with fail
  have R := hide (cells_new w 47 #[.int .i64 0, .string ⟨#[]⟩, .int .i64 0, .int .i64 0, .string ⟨#[]⟩, .string ⟨#[]⟩, .int .i64 0, .int .i64 0, .bool false, .bool false, .int .i64 0, .int .i64 0, .bool false, .bool false, .bool false, .int .i64 0])
  have HB : Hid (Below w.heap.size w (w.alloc (.cells #[.int .i64 0, .string ⟨#[]⟩, .int .i64 0, .int .i64 0, .string ⟨#[]⟩, .string ⟨#[]⟩, .int .i64 0, .int .i64 0, .bool false, .bool false, .int .i64 0, .int .i64 0, .bool false, .bool false, .bool false, .int .i64 0] 47))) := hide (below_al _ _)
  generalize hW : w.alloc (.cells #[.int .i64 0, .string ⟨#[]⟩, .int .i64 0, .int .i64 0, .string ⟨#[]⟩, .string ⟨#[]⟩, .int .i64 0, .int .i64 0, .bool false, .bool false, .int .i64 0, .int .i64 0, .bool false, .bool false, .bool false, .int .i64 0] 47) = W0 at R HB ⊢
  clear hW
  go_wp2_with fail
  refine (unhide HD _).mono ?_
  rintro e wk1 ⟨rfl, rfl⟩
  go_wp2_with fail
  refine (unhide HL _).mono ?_
  rintro e wk2 ⟨rfl, rfl⟩
  go_wp2_with fail
  refine (unhide HK _).mono ?_
  rintro e wk3 ⟨rfl, bk3⟩
  replace R := hide (cells_nx (unhide R) bk3)
  replace HB := hide (below_nx (unhide HB) bk3)
  clear bk3
  have z1 : cs.size = 16 := (unhide HI).1
  have st1 := tk_store (P := Tryz.prog) (unhide R) rfl (unhide HI)
  go_wp2
  refine bodyPost_ret (results_c1tt rfl _ _ _ _ _ _ rfl (cells_row (unhide R) cs) Tryz.underlying47 rfl (by rw [z1]; exact infoRtk) _ rfl _ rfl) rfl ?_
  exact ⟨rfl, below_setRow (unhide HB) (Nat.le_refl _) _⟩
set_option maxRecDepth 100000 in
set_option maxHeartbeats 4000000 in
theorem or_h36 (s : ByteArray) (w : World) (cs : Array Value) (n x : Int) (h0 : 0 < s.size) (HI : Hid (IsTk cs)) (HD : Hid (∀ w : World, Calls Tryz.prog 38 #[.int .u8 (s[0].toNat : Int)] w fun e w' => e = .returned (.bool false) ∧ w' = w)) (b34 : ((s[0].toNat : Int) == 34) = false) (b35 : ((s[0].toNat : Int) == 35) = false) (HL : Hid (∀ w : World, Calls Tryz.prog 42 #[.int .u8 (s[0].toNat : Int)] w fun e w' => e = .returned (.bool false) ∧ w' = w)) (b95 : ((s[0].toNat : Int) == 95) = false) (b36 : ((s[0].toNat : Int) == 36) = true) (HK : Hid (∀ w : World, Calls Tryz.prog 43 #[.string s] w fun e w' => e = .returned (.tuple #[.agg cs, .int .i64 n, .int .i64 x]) ∧ Below w.heap.size w w')) :
    Calls Tryz.prog 18 #[.string s] w fun e w' => e = .returned (.tuple #[.agg cs, .int .i64 n, .int .i64 x]) ∧ Below w.heap.size w w' := by
  go_enter Tryz.func18, Tryz.ntmps18
  go_upto_region 1 with fail
  have R := hide (cells_new w 47 #[.int .i64 0, .string ⟨#[]⟩, .int .i64 0, .int .i64 0, .string ⟨#[]⟩, .string ⟨#[]⟩, .int .i64 0, .int .i64 0, .bool false, .bool false, .int .i64 0, .int .i64 0, .bool false, .bool false, .bool false, .int .i64 0])
  have HB : Hid (Below w.heap.size w (w.alloc (.cells #[.int .i64 0, .string ⟨#[]⟩, .int .i64 0, .int .i64 0, .string ⟨#[]⟩, .string ⟨#[]⟩, .int .i64 0, .int .i64 0, .bool false, .bool false, .int .i64 0, .int .i64 0, .bool false, .bool false, .bool false, .int .i64 0] 47))) := hide (below_al _ _)
  generalize hW : w.alloc (.cells #[.int .i64 0, .string ⟨#[]⟩, .int .i64 0, .int .i64 0, .string ⟨#[]⟩, .string ⟨#[]⟩, .int .i64 0, .int .i64 0, .bool false, .bool false, .int .i64 0, .int .i64 0, .bool false, .bool false, .bool false, .int .i64 0] 47) = W0 at R HB ⊢
  clear hW
  go_wp2_with fail
  refine (unhide HD _).mono ?_
  rintro e wk1 ⟨rfl, rfl⟩
  go_wp2_with fail
  refine (unhide HL _).mono ?_
  rintro e wk2 ⟨rfl, rfl⟩
  go_wp2_with fail
  refine (unhide HK _).mono ?_
  rintro e wk3 ⟨rfl, bk3⟩
  replace R := hide (cells_nx (unhide R) bk3)
  replace HB := hide (below_nx (unhide HB) bk3)
  clear bk3
  have z1 : cs.size = 16 := (unhide HI).1
  have st1 := tk_store (P := Tryz.prog) (unhide R) rfl (unhide HI)
  go_wp2
  refine bodyPost_ret (results_c1tt rfl _ _ _ _ _ _ rfl (cells_row (unhide R) cs) Tryz.underlying47 rfl (by rw [z1]; exact infoRtk) _ rfl _ rfl) rfl ?_
  exact ⟨rfl, below_setRow (unhide HB) (Nat.le_refl _) _⟩
set_option maxRecDepth 100000 in
set_option maxHeartbeats 4000000 in
theorem or_h91 (s : ByteArray) (w : World) (cs : Array Value) (n x : Int) (h0 : 0 < s.size) (HI : Hid (IsTk cs)) (HD : Hid (∀ w : World, Calls Tryz.prog 38 #[.int .u8 (s[0].toNat : Int)] w fun e w' => e = .returned (.bool false) ∧ w' = w)) (b34 : ((s[0].toNat : Int) == 34) = false) (b35 : ((s[0].toNat : Int) == 35) = false) (HL : Hid (∀ w : World, Calls Tryz.prog 42 #[.int .u8 (s[0].toNat : Int)] w fun e w' => e = .returned (.bool false) ∧ w' = w)) (b95 : ((s[0].toNat : Int) == 95) = false) (b36 : ((s[0].toNat : Int) == 36) = false) (b91 : ((s[0].toNat : Int) == 91) = true) (HK : Hid (∀ w : World, Calls Tryz.prog 43 #[.string s] w fun e w' => e = .returned (.tuple #[.agg cs, .int .i64 n, .int .i64 x]) ∧ Below w.heap.size w w')) :
    Calls Tryz.prog 18 #[.string s] w fun e w' => e = .returned (.tuple #[.agg cs, .int .i64 n, .int .i64 x]) ∧ Below w.heap.size w w' := by
  go_enter Tryz.func18, Tryz.ntmps18
  go_upto_region 1 with fail
  have R := hide (cells_new w 47 #[.int .i64 0, .string ⟨#[]⟩, .int .i64 0, .int .i64 0, .string ⟨#[]⟩, .string ⟨#[]⟩, .int .i64 0, .int .i64 0, .bool false, .bool false, .int .i64 0, .int .i64 0, .bool false, .bool false, .bool false, .int .i64 0])
  have HB : Hid (Below w.heap.size w (w.alloc (.cells #[.int .i64 0, .string ⟨#[]⟩, .int .i64 0, .int .i64 0, .string ⟨#[]⟩, .string ⟨#[]⟩, .int .i64 0, .int .i64 0, .bool false, .bool false, .int .i64 0, .int .i64 0, .bool false, .bool false, .bool false, .int .i64 0] 47))) := hide (below_al _ _)
  generalize hW : w.alloc (.cells #[.int .i64 0, .string ⟨#[]⟩, .int .i64 0, .int .i64 0, .string ⟨#[]⟩, .string ⟨#[]⟩, .int .i64 0, .int .i64 0, .bool false, .bool false, .int .i64 0, .int .i64 0, .bool false, .bool false, .bool false, .int .i64 0] 47) = W0 at R HB ⊢
  clear hW
  go_wp2_with fail
  refine (unhide HD _).mono ?_
  rintro e wk1 ⟨rfl, rfl⟩
  go_wp2_with fail
  refine (unhide HL _).mono ?_
  rintro e wk2 ⟨rfl, rfl⟩
  go_wp2_with fail
  refine (unhide HK _).mono ?_
  rintro e wk3 ⟨rfl, bk3⟩
  replace R := hide (cells_nx (unhide R) bk3)
  replace HB := hide (below_nx (unhide HB) bk3)
  clear bk3
  have z1 : cs.size = 16 := (unhide HI).1
  have st1 := tk_store (P := Tryz.prog) (unhide R) rfl (unhide HI)
  go_wp2
  refine bodyPost_ret (results_c1tt rfl _ _ _ _ _ _ rfl (cells_row (unhide R) cs) Tryz.underlying47 rfl (by rw [z1]; exact infoRtk) _ rfl _ rfl) rfl ?_
  exact ⟨rfl, below_setRow (unhide HB) (Nat.le_refl _) _⟩
end Go.Proofs.YtgoaefpkhjbkjaaGreatDoor

namespace Go.Proofs.YtgoaefpkhjbkjaaGreatDoor
open Go.RowKit

set_option maxRecDepth 100000 in
set_option maxHeartbeats 4000000 in
theorem or_op1 (s : ByteArray) (w : World) (h0 : 0 < s.size) (HD : Hid (∀ w : World, Calls Tryz.prog 38 #[.int .u8 (s[0].toNat : Int)] w fun e w' => e = .returned (.bool false) ∧ w' = w)) (b34 : ((s[0].toNat : Int) == 34) = false) (b35 : ((s[0].toNat : Int) == 35) = false) (HL : Hid (∀ w : World, Calls Tryz.prog 42 #[.int .u8 (s[0].toNat : Int)] w fun e w' => e = .returned (.bool false) ∧ w' = w)) (b95 : ((s[0].toNat : Int) == 95) = false) (b36 : ((s[0].toNat : Int) == 36) = false) (b91 : ((s[0].toNat : Int) == 91) = false) (HO : Hid (∀ w : World, Calls Tryz.prog 44 #[.string ⟨#[43, 45, 42, 47, 94, 38, 61, 37, 60, 62]⟩, .int .u8 (s[0].toNat : Int)] w fun e w' => e = .returned (.bool true) ∧ w' = w)) (ob : ByteArray) (hx : s.extract 0 1 = ob) (HTW : Hid (∀ h : 1 < s.size, (((s[1] == 61) && ((s[0] == 60) || (s[0] == 62))) || ((s[0] == 60) && (s[1] == 62))) = false)) (i2 : (1 : Int) ≤ (s.size : Int)) :
    Calls Tryz.prog 18 #[.string s] w fun e w' => e = .returned (.tuple #[.agg #[.int .i64 5, .string ob, .int .i64 0, .int .i64 0, .string ⟨#[]⟩, .string ⟨#[]⟩, .int .i64 0, .int .i64 0, .bool false, .bool false, .int .i64 0, .int .i64 0, .bool false, .bool false, .bool false, .int .i64 0], .int .i64 1, .int .i64 0]) ∧ Below w.heap.size w w' := by
  go_enter Tryz.func18, Tryz.ntmps18
  go_upto_region 1 with fail
  have R := hide (cells_new w 47 #[.int .i64 0, .string ⟨#[]⟩, .int .i64 0, .int .i64 0, .string ⟨#[]⟩, .string ⟨#[]⟩, .int .i64 0, .int .i64 0, .bool false, .bool false, .int .i64 0, .int .i64 0, .bool false, .bool false, .bool false, .int .i64 0])
  have HB : Hid (Below w.heap.size w (w.alloc (.cells #[.int .i64 0, .string ⟨#[]⟩, .int .i64 0, .int .i64 0, .string ⟨#[]⟩, .string ⟨#[]⟩, .int .i64 0, .int .i64 0, .bool false, .bool false, .int .i64 0, .int .i64 0, .bool false, .bool false, .bool false, .int .i64 0] 47))) := hide (below_al _ _)
  generalize hW : w.alloc (.cells #[.int .i64 0, .string ⟨#[]⟩, .int .i64 0, .int .i64 0, .string ⟨#[]⟩, .string ⟨#[]⟩, .int .i64 0, .int .i64 0, .bool false, .bool false, .int .i64 0, .int .i64 0, .bool false, .bool false, .bool false, .int .i64 0] 47) = W0 at R HB ⊢
  clear hW
  go_wp2_with fail
  refine (unhide HD _).mono ?_
  rintro e wk1 ⟨rfl, rfl⟩
  go_wp2_with fail
  refine (unhide HL _).mono ?_
  rintro e wk2 ⟨rfl, rfl⟩
  go_wp2_with fail
  refine (unhide HO _).mono ?_
  rintro e wk3 ⟨rfl, rfl⟩
  go_upto_region 15 with fail
  go_cut [81] from 57 to 80 (fun v wx => v = .bool false ∧ wx = wk3)
  case first =>
    by_cases hl : 1 < s.size
    · have hli : 1 < (s.size : Int) := by omega
      have hld : decide (1 < (s.size : Int)) = true := decide_eq_true hli
      have e0 := byte_eq s[0] 60
      have e1 := byte_eq s[0] 62
      have e2 := byte_eq s[1] 61
      have e3 := byte_eq s[1] 62
      have HT2 := hide (show (((s[1] == 61) && ((s[0] == 60) || (s[0] == 62))) || ((s[0] == 60) && (s[1] == 62))) = false from unhide HTW hl)
      rw [e0, e1, e2, e3] at HT2
      rw [show ((60 : UInt8).toNat : Int) = 60 from rfl, show ((61 : UInt8).toNat : Int) = 61 from rfl, show ((62 : UInt8).toNat : Int) = 62 from rfl] at HT2
      clear e0 e1 e2 e3
      cases b61 : ((s[1].toNat : Int) == 61)
      · cases b60 : ((s[0].toNat : Int) == 60)
        · (go_wp2; go_meet; case rel => exact ⟨rfl, rfl⟩)
        · cases c62 : ((s[1].toNat : Int) == 62)
          · (go_wp2; go_meet; case rel => exact ⟨rfl, rfl⟩)
          · (exfalso; have := unhide HT2; simp [b61, b60, c62] at this)
      · cases b60 : ((s[0].toNat : Int) == 60)
        · cases b62 : ((s[0].toNat : Int) == 62)
          · (go_wp2; go_meet; case rel => exact ⟨rfl, rfl⟩)
          · (exfalso; have := unhide HT2; simp [b61, b60, b62] at this)
        · (exfalso; have := unhide HT2; simp [b61, b60] at this)
    · have hli : ¬ 1 < (s.size : Int) := by omega
      have hld : decide (1 < (s.size : Int)) = false := decide_eq_false hli
      (go_wp2; go_meet; case rel => exact ⟨rfl, rfl⟩)
  case rest =>
    obtain ⟨rfl, rfl⟩ := hcut
    obtain ⟨r_0, r_1, r_2, r_3, r_4, r_5, r_6, r_7, r_8, r_9, r_10, r_11, r_12, r_13, r_14, r_15⟩ := cells16 (unhide R)
    obtain ⟨fz_0, fz_1, fz_2, fz_3, fz_4, fz_5, fz_6, fz_7, fz_8, fz_9, fz_10, fz_11, fz_12, fz_13, fz_14, fz_15⟩ := frz16 (unhide R)
    go_wp2
    refine bodyPost_ret (results_c1tt rfl _ _ _ _ _ _ rfl (cells_set16 (unhide R) _ _ _ _ _ _ _ _ _ _ _ _ _ _ _ _) Tryz.underlying47 rfl (by exact infoRtk) _ rfl _ rfl) rfl ?_
    exact ⟨rfl, below_set16 (unhide HB) (Nat.le_refl _) _ _ _ _ _ _ _ _ _ _ _ _ _ _ _ _⟩
set_option maxRecDepth 100000 in
set_option maxHeartbeats 4000000 in
theorem or_op2 (s : ByteArray) (w : World) (h0 : 0 < s.size) (HD : Hid (∀ w : World, Calls Tryz.prog 38 #[.int .u8 (s[0].toNat : Int)] w fun e w' => e = .returned (.bool false) ∧ w' = w)) (b34 : ((s[0].toNat : Int) == 34) = false) (b35 : ((s[0].toNat : Int) == 35) = false) (HL : Hid (∀ w : World, Calls Tryz.prog 42 #[.int .u8 (s[0].toNat : Int)] w fun e w' => e = .returned (.bool false) ∧ w' = w)) (b95 : ((s[0].toNat : Int) == 95) = false) (b36 : ((s[0].toNat : Int) == 36) = false) (b91 : ((s[0].toNat : Int) == 91) = false) (HO : Hid (∀ w : World, Calls Tryz.prog 44 #[.string ⟨#[43, 45, 42, 47, 94, 38, 61, 37, 60, 62]⟩, .int .u8 (s[0].toNat : Int)] w fun e w' => e = .returned (.bool true) ∧ w' = w)) (ob : ByteArray) (hx : s.extract 0 2 = ob) (HTW : Hid (∀ h : 1 < s.size, (((s[1] == 61) && ((s[0] == 60) || (s[0] == 62))) || ((s[0] == 60) && (s[1] == 62))) = true)) (HLN : Hid (1 < s.size)) (i2 : (2 : Int) ≤ (s.size : Int)) :
    Calls Tryz.prog 18 #[.string s] w fun e w' => e = .returned (.tuple #[.agg #[.int .i64 5, .string ob, .int .i64 0, .int .i64 0, .string ⟨#[]⟩, .string ⟨#[]⟩, .int .i64 0, .int .i64 0, .bool false, .bool false, .int .i64 0, .int .i64 0, .bool false, .bool false, .bool false, .int .i64 0], .int .i64 2, .int .i64 0]) ∧ Below w.heap.size w w' := by
  go_enter Tryz.func18, Tryz.ntmps18
  go_upto_region 1 with fail
  have R := hide (cells_new w 47 #[.int .i64 0, .string ⟨#[]⟩, .int .i64 0, .int .i64 0, .string ⟨#[]⟩, .string ⟨#[]⟩, .int .i64 0, .int .i64 0, .bool false, .bool false, .int .i64 0, .int .i64 0, .bool false, .bool false, .bool false, .int .i64 0])
  have HB : Hid (Below w.heap.size w (w.alloc (.cells #[.int .i64 0, .string ⟨#[]⟩, .int .i64 0, .int .i64 0, .string ⟨#[]⟩, .string ⟨#[]⟩, .int .i64 0, .int .i64 0, .bool false, .bool false, .int .i64 0, .int .i64 0, .bool false, .bool false, .bool false, .int .i64 0] 47))) := hide (below_al _ _)
  generalize hW : w.alloc (.cells #[.int .i64 0, .string ⟨#[]⟩, .int .i64 0, .int .i64 0, .string ⟨#[]⟩, .string ⟨#[]⟩, .int .i64 0, .int .i64 0, .bool false, .bool false, .int .i64 0, .int .i64 0, .bool false, .bool false, .bool false, .int .i64 0] 47) = W0 at R HB ⊢
  clear hW
  go_wp2_with fail
  refine (unhide HD _).mono ?_
  rintro e wk1 ⟨rfl, rfl⟩
  go_wp2_with fail
  refine (unhide HL _).mono ?_
  rintro e wk2 ⟨rfl, rfl⟩
  go_wp2_with fail
  refine (unhide HO _).mono ?_
  rintro e wk3 ⟨rfl, rfl⟩
  go_upto_region 15 with fail
  go_cut [81] from 57 to 80 (fun v wx => v = .bool true ∧ wx = wk3)
  case first =>
    by_cases hl : 1 < s.size
    · have hli : 1 < (s.size : Int) := by omega
      have hld : decide (1 < (s.size : Int)) = true := decide_eq_true hli
      have e0 := byte_eq s[0] 60
      have e1 := byte_eq s[0] 62
      have e2 := byte_eq s[1] 61
      have e3 := byte_eq s[1] 62
      have HT2 := hide (show (((s[1] == 61) && ((s[0] == 60) || (s[0] == 62))) || ((s[0] == 60) && (s[1] == 62))) = true from unhide HTW hl)
      rw [e0, e1, e2, e3] at HT2
      rw [show ((60 : UInt8).toNat : Int) = 60 from rfl, show ((61 : UInt8).toNat : Int) = 61 from rfl, show ((62 : UInt8).toNat : Int) = 62 from rfl] at HT2
      clear e0 e1 e2 e3
      cases b61 : ((s[1].toNat : Int) == 61)
      · cases b60 : ((s[0].toNat : Int) == 60)
        · (exfalso; have := unhide HT2; simp [b61, b60] at this)
        · cases c62 : ((s[1].toNat : Int) == 62)
          · (exfalso; have := unhide HT2; simp [b61, b60, c62] at this)
          · (go_wp2; go_meet; case rel => exact ⟨rfl, rfl⟩)
      · cases b60 : ((s[0].toNat : Int) == 60)
        · cases b62 : ((s[0].toNat : Int) == 62)
          · (exfalso; have := unhide HT2; simp [b61, b60, b62] at this)
          · (go_wp2; go_meet; case rel => exact ⟨rfl, rfl⟩)
        · (go_wp2; go_meet; case rel => exact ⟨rfl, rfl⟩)
    · have hli : ¬ 1 < (s.size : Int) := by omega
      have hld : decide (1 < (s.size : Int)) = false := decide_eq_false hli
      (exfalso; exact absurd (unhide HLN) hl)
  case rest =>
    obtain ⟨rfl, rfl⟩ := hcut
    obtain ⟨r_0, r_1, r_2, r_3, r_4, r_5, r_6, r_7, r_8, r_9, r_10, r_11, r_12, r_13, r_14, r_15⟩ := cells16 (unhide R)
    obtain ⟨fz_0, fz_1, fz_2, fz_3, fz_4, fz_5, fz_6, fz_7, fz_8, fz_9, fz_10, fz_11, fz_12, fz_13, fz_14, fz_15⟩ := frz16 (unhide R)
    go_wp2
    refine bodyPost_ret (results_c1tt rfl _ _ _ _ _ _ rfl (cells_set16 (unhide R) _ _ _ _ _ _ _ _ _ _ _ _ _ _ _ _) Tryz.underlying47 rfl (by exact infoRtk) _ rfl _ rfl) rfl ?_
    exact ⟨rfl, below_set16 (unhide HB) (Nat.le_refl _) _ _ _ _ _ _ _ _ _ _ _ _ _ _ _ _⟩
end Go.Proofs.YtgoaefpkhjbkjaaGreatDoor

namespace Go.Proofs.YtgoaefpkhjbkjaaGreatDoor
open Go.RowKit

set_option maxRecDepth 100000 in
set_option maxHeartbeats 4000000 in
theorem or_open (s : ByteArray) (w : World) (h0 : 0 < s.size) (HD : Hid (∀ w : World, Calls Tryz.prog 38 #[.int .u8 (s[0].toNat : Int)] w fun e w' => e = .returned (.bool false) ∧ w' = w)) (b34 : ((s[0].toNat : Int) == 34) = false) (b35 : ((s[0].toNat : Int) == 35) = false) (HL : Hid (∀ w : World, Calls Tryz.prog 42 #[.int .u8 (s[0].toNat : Int)] w fun e w' => e = .returned (.bool false) ∧ w' = w)) (b95 : ((s[0].toNat : Int) == 95) = false) (b36 : ((s[0].toNat : Int) == 36) = false) (b91 : ((s[0].toNat : Int) == 91) = false) (HO : Hid (∀ w : World, Calls Tryz.prog 44 #[.string ⟨#[43, 45, 42, 47, 94, 38, 61, 37, 60, 62]⟩, .int .u8 (s[0].toNat : Int)] w fun e w' => e = .returned (.bool false) ∧ w' = w)) (b40 : ((s[0].toNat : Int) == 40) = true) :
    Calls Tryz.prog 18 #[.string s] w fun e w' => e = .returned (.tuple #[.agg #[.int .i64 6, .string ⟨#[]⟩, .int .i64 0, .int .i64 0, .string ⟨#[]⟩, .string ⟨#[]⟩, .int .i64 0, .int .i64 0, .bool false, .bool false, .int .i64 0, .int .i64 0, .bool false, .bool false, .bool false, .int .i64 0], .int .i64 1, .int .i64 0]) ∧ Below w.heap.size w w' := by
  go_enter Tryz.func18, Tryz.ntmps18
  go_upto_region 1 with fail
  have R := hide (cells_new w 47 #[.int .i64 0, .string ⟨#[]⟩, .int .i64 0, .int .i64 0, .string ⟨#[]⟩, .string ⟨#[]⟩, .int .i64 0, .int .i64 0, .bool false, .bool false, .int .i64 0, .int .i64 0, .bool false, .bool false, .bool false, .int .i64 0])
  have HB : Hid (Below w.heap.size w (w.alloc (.cells #[.int .i64 0, .string ⟨#[]⟩, .int .i64 0, .int .i64 0, .string ⟨#[]⟩, .string ⟨#[]⟩, .int .i64 0, .int .i64 0, .bool false, .bool false, .int .i64 0, .int .i64 0, .bool false, .bool false, .bool false, .int .i64 0] 47))) := hide (below_al _ _)
  generalize hW : w.alloc (.cells #[.int .i64 0, .string ⟨#[]⟩, .int .i64 0, .int .i64 0, .string ⟨#[]⟩, .string ⟨#[]⟩, .int .i64 0, .int .i64 0, .bool false, .bool false, .int .i64 0, .int .i64 0, .bool false, .bool false, .bool false, .int .i64 0] 47) = W0 at R HB ⊢
  clear hW
  go_wp2_with fail
  refine (unhide HD _).mono ?_
  rintro e wk1 ⟨rfl, rfl⟩
  go_wp2_with fail
  refine (unhide HL _).mono ?_
  rintro e wk2 ⟨rfl, rfl⟩
  go_wp2_with fail
  refine (unhide HO _).mono ?_
  rintro e wk3 ⟨rfl, rfl⟩
  obtain ⟨r_0, r_1, r_2, r_3, r_4, r_5, r_6, r_7, r_8, r_9, r_10, r_11, r_12, r_13, r_14, r_15⟩ := cells16 (unhide R)
  obtain ⟨fz_0, fz_1, fz_2, fz_3, fz_4, fz_5, fz_6, fz_7, fz_8, fz_9, fz_10, fz_11, fz_12, fz_13, fz_14, fz_15⟩ := frz16 (unhide R)
  go_wp2
  refine bodyPost_ret (results_c1tt rfl _ _ _ _ _ _ rfl (cells_set16 (unhide R) _ _ _ _ _ _ _ _ _ _ _ _ _ _ _ _) Tryz.underlying47 rfl (by exact infoRtk) _ rfl _ rfl) rfl ?_
  exact ⟨rfl, below_set16 (unhide HB) (Nat.le_refl _) _ _ _ _ _ _ _ _ _ _ _ _ _ _ _ _⟩
set_option maxRecDepth 100000 in
set_option maxHeartbeats 4000000 in
theorem or_close (s : ByteArray) (w : World) (h0 : 0 < s.size) (HD : Hid (∀ w : World, Calls Tryz.prog 38 #[.int .u8 (s[0].toNat : Int)] w fun e w' => e = .returned (.bool false) ∧ w' = w)) (b34 : ((s[0].toNat : Int) == 34) = false) (b35 : ((s[0].toNat : Int) == 35) = false) (HL : Hid (∀ w : World, Calls Tryz.prog 42 #[.int .u8 (s[0].toNat : Int)] w fun e w' => e = .returned (.bool false) ∧ w' = w)) (b95 : ((s[0].toNat : Int) == 95) = false) (b36 : ((s[0].toNat : Int) == 36) = false) (b91 : ((s[0].toNat : Int) == 91) = false) (HO : Hid (∀ w : World, Calls Tryz.prog 44 #[.string ⟨#[43, 45, 42, 47, 94, 38, 61, 37, 60, 62]⟩, .int .u8 (s[0].toNat : Int)] w fun e w' => e = .returned (.bool false) ∧ w' = w)) (b40 : ((s[0].toNat : Int) == 40) = false) (b41 : ((s[0].toNat : Int) == 41) = true) :
    Calls Tryz.prog 18 #[.string s] w fun e w' => e = .returned (.tuple #[.agg #[.int .i64 7, .string ⟨#[]⟩, .int .i64 0, .int .i64 0, .string ⟨#[]⟩, .string ⟨#[]⟩, .int .i64 0, .int .i64 0, .bool false, .bool false, .int .i64 0, .int .i64 0, .bool false, .bool false, .bool false, .int .i64 0], .int .i64 1, .int .i64 0]) ∧ Below w.heap.size w w' := by
  go_enter Tryz.func18, Tryz.ntmps18
  go_upto_region 1 with fail
  have R := hide (cells_new w 47 #[.int .i64 0, .string ⟨#[]⟩, .int .i64 0, .int .i64 0, .string ⟨#[]⟩, .string ⟨#[]⟩, .int .i64 0, .int .i64 0, .bool false, .bool false, .int .i64 0, .int .i64 0, .bool false, .bool false, .bool false, .int .i64 0])
  have HB : Hid (Below w.heap.size w (w.alloc (.cells #[.int .i64 0, .string ⟨#[]⟩, .int .i64 0, .int .i64 0, .string ⟨#[]⟩, .string ⟨#[]⟩, .int .i64 0, .int .i64 0, .bool false, .bool false, .int .i64 0, .int .i64 0, .bool false, .bool false, .bool false, .int .i64 0] 47))) := hide (below_al _ _)
  generalize hW : w.alloc (.cells #[.int .i64 0, .string ⟨#[]⟩, .int .i64 0, .int .i64 0, .string ⟨#[]⟩, .string ⟨#[]⟩, .int .i64 0, .int .i64 0, .bool false, .bool false, .int .i64 0, .int .i64 0, .bool false, .bool false, .bool false, .int .i64 0] 47) = W0 at R HB ⊢
  clear hW
  go_wp2_with fail
  refine (unhide HD _).mono ?_
  rintro e wk1 ⟨rfl, rfl⟩
  go_wp2_with fail
  refine (unhide HL _).mono ?_
  rintro e wk2 ⟨rfl, rfl⟩
  go_wp2_with fail
  refine (unhide HO _).mono ?_
  rintro e wk3 ⟨rfl, rfl⟩
  obtain ⟨r_0, r_1, r_2, r_3, r_4, r_5, r_6, r_7, r_8, r_9, r_10, r_11, r_12, r_13, r_14, r_15⟩ := cells16 (unhide R)
  obtain ⟨fz_0, fz_1, fz_2, fz_3, fz_4, fz_5, fz_6, fz_7, fz_8, fz_9, fz_10, fz_11, fz_12, fz_13, fz_14, fz_15⟩ := frz16 (unhide R)
  go_wp2
  refine bodyPost_ret (results_c1tt rfl _ _ _ _ _ _ rfl (cells_set16 (unhide R) _ _ _ _ _ _ _ _ _ _ _ _ _ _ _ _) Tryz.underlying47 rfl (by exact infoRtk) _ rfl _ rfl) rfl ?_
  exact ⟨rfl, below_set16 (unhide HB) (Nat.le_refl _) _ _ _ _ _ _ _ _ _ _ _ _ _ _ _ _⟩
set_option maxRecDepth 100000 in
set_option maxHeartbeats 4000000 in
theorem or_comma (s : ByteArray) (w : World) (h0 : 0 < s.size) (HD : Hid (∀ w : World, Calls Tryz.prog 38 #[.int .u8 (s[0].toNat : Int)] w fun e w' => e = .returned (.bool false) ∧ w' = w)) (b34 : ((s[0].toNat : Int) == 34) = false) (b35 : ((s[0].toNat : Int) == 35) = false) (HL : Hid (∀ w : World, Calls Tryz.prog 42 #[.int .u8 (s[0].toNat : Int)] w fun e w' => e = .returned (.bool false) ∧ w' = w)) (b95 : ((s[0].toNat : Int) == 95) = false) (b36 : ((s[0].toNat : Int) == 36) = false) (b91 : ((s[0].toNat : Int) == 91) = false) (HO : Hid (∀ w : World, Calls Tryz.prog 44 #[.string ⟨#[43, 45, 42, 47, 94, 38, 61, 37, 60, 62]⟩, .int .u8 (s[0].toNat : Int)] w fun e w' => e = .returned (.bool false) ∧ w' = w)) (b40 : ((s[0].toNat : Int) == 40) = false) (b41 : ((s[0].toNat : Int) == 41) = false) (b44 : ((s[0].toNat : Int) == 44) = true) :
    Calls Tryz.prog 18 #[.string s] w fun e w' => e = .returned (.tuple #[.agg #[.int .i64 8, .string ⟨#[]⟩, .int .i64 0, .int .i64 0, .string ⟨#[]⟩, .string ⟨#[]⟩, .int .i64 0, .int .i64 0, .bool false, .bool false, .int .i64 0, .int .i64 0, .bool false, .bool false, .bool false, .int .i64 0], .int .i64 1, .int .i64 0]) ∧ Below w.heap.size w w' := by
  go_enter Tryz.func18, Tryz.ntmps18
  go_upto_region 1 with fail
  have R := hide (cells_new w 47 #[.int .i64 0, .string ⟨#[]⟩, .int .i64 0, .int .i64 0, .string ⟨#[]⟩, .string ⟨#[]⟩, .int .i64 0, .int .i64 0, .bool false, .bool false, .int .i64 0, .int .i64 0, .bool false, .bool false, .bool false, .int .i64 0])
  have HB : Hid (Below w.heap.size w (w.alloc (.cells #[.int .i64 0, .string ⟨#[]⟩, .int .i64 0, .int .i64 0, .string ⟨#[]⟩, .string ⟨#[]⟩, .int .i64 0, .int .i64 0, .bool false, .bool false, .int .i64 0, .int .i64 0, .bool false, .bool false, .bool false, .int .i64 0] 47))) := hide (below_al _ _)
  generalize hW : w.alloc (.cells #[.int .i64 0, .string ⟨#[]⟩, .int .i64 0, .int .i64 0, .string ⟨#[]⟩, .string ⟨#[]⟩, .int .i64 0, .int .i64 0, .bool false, .bool false, .int .i64 0, .int .i64 0, .bool false, .bool false, .bool false, .int .i64 0] 47) = W0 at R HB ⊢
  clear hW
  go_wp2_with fail
  refine (unhide HD _).mono ?_
  rintro e wk1 ⟨rfl, rfl⟩
  go_wp2_with fail
  refine (unhide HL _).mono ?_
  rintro e wk2 ⟨rfl, rfl⟩
  go_wp2_with fail
  refine (unhide HO _).mono ?_
  rintro e wk3 ⟨rfl, rfl⟩
  obtain ⟨r_0, r_1, r_2, r_3, r_4, r_5, r_6, r_7, r_8, r_9, r_10, r_11, r_12, r_13, r_14, r_15⟩ := cells16 (unhide R)
  obtain ⟨fz_0, fz_1, fz_2, fz_3, fz_4, fz_5, fz_6, fz_7, fz_8, fz_9, fz_10, fz_11, fz_12, fz_13, fz_14, fz_15⟩ := frz16 (unhide R)
  go_wp2
  refine bodyPost_ret (results_c1tt rfl _ _ _ _ _ _ rfl (cells_set16 (unhide R) _ _ _ _ _ _ _ _ _ _ _ _ _ _ _ _) Tryz.underlying47 rfl (by exact infoRtk) _ rfl _ rfl) rfl ?_
  exact ⟨rfl, below_set16 (unhide HB) (Nat.le_refl _) _ _ _ _ _ _ _ _ _ _ _ _ _ _ _ _⟩
set_option maxRecDepth 100000 in
set_option maxHeartbeats 4000000 in
theorem or_none (s : ByteArray) (w : World) (h0 : 0 < s.size) (HD : Hid (∀ w : World, Calls Tryz.prog 38 #[.int .u8 (s[0].toNat : Int)] w fun e w' => e = .returned (.bool false) ∧ w' = w)) (b34 : ((s[0].toNat : Int) == 34) = false) (b35 : ((s[0].toNat : Int) == 35) = false) (HL : Hid (∀ w : World, Calls Tryz.prog 42 #[.int .u8 (s[0].toNat : Int)] w fun e w' => e = .returned (.bool false) ∧ w' = w)) (b95 : ((s[0].toNat : Int) == 95) = false) (b36 : ((s[0].toNat : Int) == 36) = false) (b91 : ((s[0].toNat : Int) == 91) = false) (HO : Hid (∀ w : World, Calls Tryz.prog 44 #[.string ⟨#[43, 45, 42, 47, 94, 38, 61, 37, 60, 62]⟩, .int .u8 (s[0].toNat : Int)] w fun e w' => e = .returned (.bool false) ∧ w' = w)) (b40 : ((s[0].toNat : Int) == 40) = false) (b41 : ((s[0].toNat : Int) == 41) = false) (b44 : ((s[0].toNat : Int) == 44) = false) :
    Calls Tryz.prog 18 #[.string s] w fun e w' => e = .returned (.tuple #[.agg #[.int .i64 0, .string ⟨#[]⟩, .int .i64 0, .int .i64 0, .string ⟨#[]⟩, .string ⟨#[]⟩, .int .i64 0, .int .i64 0, .bool false, .bool false, .int .i64 0, .int .i64 0, .bool false, .bool false, .bool false, .int .i64 0], .int .i64 0, .int .i64 4]) ∧ Below w.heap.size w w' := by
  go_enter Tryz.func18, Tryz.ntmps18
  go_upto_region 1 with fail
  have R := hide (cells_new w 47 #[.int .i64 0, .string ⟨#[]⟩, .int .i64 0, .int .i64 0, .string ⟨#[]⟩, .string ⟨#[]⟩, .int .i64 0, .int .i64 0, .bool false, .bool false, .int .i64 0, .int .i64 0, .bool false, .bool false, .bool false, .int .i64 0])
  have HB : Hid (Below w.heap.size w (w.alloc (.cells #[.int .i64 0, .string ⟨#[]⟩, .int .i64 0, .int .i64 0, .string ⟨#[]⟩, .string ⟨#[]⟩, .int .i64 0, .int .i64 0, .bool false, .bool false, .int .i64 0, .int .i64 0, .bool false, .bool false, .bool false, .int .i64 0] 47))) := hide (below_al _ _)
  generalize hW : w.alloc (.cells #[.int .i64 0, .string ⟨#[]⟩, .int .i64 0, .int .i64 0, .string ⟨#[]⟩, .string ⟨#[]⟩, .int .i64 0, .int .i64 0, .bool false, .bool false, .int .i64 0, .int .i64 0, .bool false, .bool false, .bool false, .int .i64 0] 47) = W0 at R HB ⊢
  clear hW
  go_wp2_with fail
  refine (unhide HD _).mono ?_
  rintro e wk1 ⟨rfl, rfl⟩
  go_wp2_with fail
  refine (unhide HL _).mono ?_
  rintro e wk2 ⟨rfl, rfl⟩
  go_wp2_with fail
  refine (unhide HO _).mono ?_
  rintro e wk3 ⟨rfl, rfl⟩
  obtain ⟨r_0, r_1, r_2, r_3, r_4, r_5, r_6, r_7, r_8, r_9, r_10, r_11, r_12, r_13, r_14, r_15⟩ := cells16 (unhide R)
  obtain ⟨fz_0, fz_1, fz_2, fz_3, fz_4, fz_5, fz_6, fz_7, fz_8, fz_9, fz_10, fz_11, fz_12, fz_13, fz_14, fz_15⟩ := frz16 (unhide R)
  go_wp2
  refine bodyPost_ret (results_c1tt rfl _ _ _ _ _ _ rfl (cells_set16 (unhide R) _ _ _ _ _ _ _ _ _ _ _ _ _ _ _ _) Tryz.underlying47 rfl (by exact infoRtk) _ rfl _ rfl) rfl ?_
  exact ⟨rfl, below_set16 (unhide HB) (Nat.le_refl _) _ _ _ _ _ _ _ _ _ _ _ _ _ _ _ _⟩
end Go.Proofs.YtgoaefpkhjbkjaaGreatDoor
