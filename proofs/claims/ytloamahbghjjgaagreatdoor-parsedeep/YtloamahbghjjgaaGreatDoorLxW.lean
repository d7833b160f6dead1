/- Rows of sixteen cells stored whole; the walks of first. -/
import Derived.Test.YtloamahbghjjgaaGreatDoorLxE
import Derived.Deep.WholeRow
import Derived.Laws.Tables
import Derived.Laws.CopyOwn
namespace Go.Proofs.YtloamahbghjjgaaGreatDoor
open Go.RowKit

/-- Sixteen cells, each of them one cell wide. -/
def IsTk (cs : Array Value) : Prop := cs.size = 16 ∧ cs.all (·.oneCell') = true
theorem tk_row (t : Tk) : IsTk t.cells := ⟨rfl, by simp [Tk.cells, Value.oneCell']⟩
theorem tk_store {P : Program} {w : World} {B : Nat} {t : TypeId} {old cs : Array Value} (h : CellsAt w B t old) (ho : old.size = 16) (hc : IsTk cs) : (storeCells ⟨B, 0, none⟩ cs.toList 0).run P w = .ok () (w.setRow B cs) := by
  have := run_storeCells_from (P := P) B t cs.toList 0 old w h (by rw [ho]; simp [hc.1]) (fun v hv => (Array.all_eq_true_iff_forall_mem.1 hc.2) v (by simpa using hv))
  simpa using this
theorem cells_row {w : World} {B : Nat} {t : TypeId} {cs : Array Value} (h : CellsAt w B t cs) (cs' : Array Value) : CellsAt (w.setRow B cs') B t cs' := setRow_heap w B cs cs' t (0, 0) h
set_option maxRecDepth 100000 in
set_option maxHeartbeats 4000000 in
theorem fs_num (s : ByteArray) (w : World) (cs : Array Value) (n x : Int) (h0 : 0 < s.size) (HE : Hid (Env5 w)) (HI : Hid (IsTk cs)) (HD : Hid (∀ w : World, Calls Tryz.prog 88 #[.int .u8 (s[0].toNat : Int)] w fun e w' => e = .returned (.bool true) ∧ w' = w)) (HK : Hid (∀ w : World, Env5 w → Calls Tryz.prog 89 #[.string s] w fun e w' => e = .returned (.tuple #[.agg cs, .int .i64 n, .int .i64 x]) ∧ Below w.heap.size w w')) :
    Calls Tryz.prog 58 #[.string s] w fun e w' => e = .returned (.tuple #[.agg cs, .int .i64 n, .int .i64 x]) ∧ Below w.heap.size w w' := by
  go_enter Tryz.func58, Tryz.ntmps58
  go_upto_region 1 with fail
  have R := hide (cells_new w 116 #[.int .i64 0, .string ⟨#[]⟩, .int .i64 0, .int .i64 0, .string ⟨#[]⟩, .string ⟨#[]⟩, .int .i64 0, .int .i64 0, .bool false, .bool false, .int .i64 0, .int .i64 0, .bool false, .bool false, .bool false, .int .i64 0])
  have HB : Hid (Below w.heap.size w (w.alloc (.cells #[.int .i64 0, .string ⟨#[]⟩, .int .i64 0, .int .i64 0, .string ⟨#[]⟩, .string ⟨#[]⟩, .int .i64 0, .int .i64 0, .bool false, .bool false, .int .i64 0, .int .i64 0, .bool false, .bool false, .bool false, .int .i64 0] 116))) := hide (below_al _ _)
  generalize hW : w.alloc (.cells #[.int .i64 0, .string ⟨#[]⟩, .int .i64 0, .int .i64 0, .string ⟨#[]⟩, .string ⟨#[]⟩, .int .i64 0, .int .i64 0, .bool false, .bool false, .int .i64 0, .int .i64 0, .bool false, .bool false, .bool false, .int .i64 0] 116) = W0 at R HB ⊢
  clear hW
  go_wp2_with fail
  refine (unhide HD _).mono ?_
  rintro e wk1 ⟨rfl, rfl⟩
  go_wp2_with fail
  refine (unhide HK _ ((unhide HE).below (unhide HB))).mono ?_
  rintro e wk2 ⟨rfl, bk2⟩
  replace R := hide (cells_nx (unhide R) bk2)
  replace HB := hide (below_nx (unhide HB) bk2)
  clear bk2
  have z1 : cs.size = 16 := (unhide HI).1
  have st1 := tk_store (P := Tryz.prog) (unhide R) rfl (unhide HI)
  go_wp2
  refine bodyPost_ret (results_c1tt rfl _ _ _ _ _ _ rfl (cells_row (unhide R) cs) Tryz.underlying116 rfl (by rw [z1]; exact infoTk) _ rfl _ rfl) rfl ?_
  exact ⟨rfl, below_setRow (unhide HB) (Nat.le_refl _) _⟩
set_option maxRecDepth 100000 in
set_option maxHeartbeats 4000000 in
theorem fs_let (s : ByteArray) (w : World) (cs : Array Value) (n x : Int) (h0 : 0 < s.size) (HE : Hid (Env5 w)) (HI : Hid (IsTk cs)) (HD : Hid (∀ w : World, Calls Tryz.prog 88 #[.int .u8 (s[0].toNat : Int)] w fun e w' => e = .returned (.bool false) ∧ w' = w)) (HL : Hid (∀ w : World, Calls Tryz.prog 90 #[.int .u8 (s[0].toNat : Int)] w fun e w' => e = .returned (.bool true) ∧ w' = w)) (HK : Hid (∀ w : World, Env5 w → Calls Tryz.prog 92 #[.string s] w fun e w' => e = .returned (.tuple #[.agg cs, .int .i64 n, .int .i64 x]) ∧ Below w.heap.size w w')) :
    Calls Tryz.prog 58 #[.string s] w fun e w' => e = .returned (.tuple #[.agg cs, .int .i64 n, .int .i64 x]) ∧ Below w.heap.size w w' := by
  go_enter Tryz.func58, Tryz.ntmps58
  go_upto_region 1 with fail
  have R := hide (cells_new w 116 #[.int .i64 0, .string ⟨#[]⟩, .int .i64 0, .int .i64 0, .string ⟨#[]⟩, .string ⟨#[]⟩, .int .i64 0, .int .i64 0, .bool false, .bool false, .int .i64 0, .int .i64 0, .bool false, .bool false, .bool false, .int .i64 0])
  have HB : Hid (Below w.heap.size w (w.alloc (.cells #[.int .i64 0, .string ⟨#[]⟩, .int .i64 0, .int .i64 0, .string ⟨#[]⟩, .string ⟨#[]⟩, .int .i64 0, .int .i64 0, .bool false, .bool false, .int .i64 0, .int .i64 0, .bool false, .bool false, .bool false, .int .i64 0] 116))) := hide (below_al _ _)
  generalize hW : w.alloc (.cells #[.int .i64 0, .string ⟨#[]⟩, .int .i64 0, .int .i64 0, .string ⟨#[]⟩, .string ⟨#[]⟩, .int .i64 0, .int .i64 0, .bool false, .bool false, .int .i64 0, .int .i64 0, .bool false, .bool false, .bool false, .int .i64 0] 116) = W0 at R HB ⊢
  clear hW
  go_wp2_with fail
  refine (unhide HD _).mono ?_
  rintro e wk1 ⟨rfl, rfl⟩
  go_wp2_with fail
  refine (unhide HL _).mono ?_
  rintro e wk2 ⟨rfl, rfl⟩
  go_wp2_with fail
  refine (unhide HK _ ((unhide HE).below (unhide HB))).mono ?_
  rintro e wk3 ⟨rfl, bk3⟩
  replace R := hide (cells_nx (unhide R) bk3)
  replace HB := hide (below_nx (unhide HB) bk3)
  clear bk3
  have z1 : cs.size = 16 := (unhide HI).1
  have st1 := tk_store (P := Tryz.prog) (unhide R) rfl (unhide HI)
  go_wp2
  refine bodyPost_ret (results_c1tt rfl _ _ _ _ _ _ rfl (cells_row (unhide R) cs) Tryz.underlying116 rfl (by rw [z1]; exact infoTk) _ rfl _ rfl) rfl ?_
  exact ⟨rfl, below_setRow (unhide HB) (Nat.le_refl _) _⟩
set_option maxRecDepth 100000 in
set_option maxHeartbeats 4000000 in
theorem fs_head (s : ByteArray) (w : World) (cs : Array Value) (n x : Int) (h0 : 0 < s.size) (HE : Hid (Env5 w)) (HI : Hid (IsTk cs)) (HD : Hid (∀ w : World, Calls Tryz.prog 88 #[.int .u8 (s[0].toNat : Int)] w fun e w' => e = .returned (.bool false) ∧ w' = w)) (HL : Hid (∀ w : World, Calls Tryz.prog 90 #[.int .u8 (s[0].toNat : Int)] w fun e w' => e = .returned (.bool false) ∧ w' = w)) (HA1 : Hid (∀ w : World, Calls Tryz.prog 91 #[.int .u8 (s[0].toNat : Int), .string ⟨#[95, 36, 91]⟩] w fun e w' => e = .returned (.bool true) ∧ w' = w)) (HK : Hid (∀ w : World, Env5 w → Calls Tryz.prog 92 #[.string s] w fun e w' => e = .returned (.tuple #[.agg cs, .int .i64 n, .int .i64 x]) ∧ Below w.heap.size w w')) :
    Calls Tryz.prog 58 #[.string s] w fun e w' => e = .returned (.tuple #[.agg cs, .int .i64 n, .int .i64 x]) ∧ Below w.heap.size w w' := by
  go_enter Tryz.func58, Tryz.ntmps58
  go_upto_region 1 with fail
  have R := hide (cells_new w 116 #[.int .i64 0, .string ⟨#[]⟩, .int .i64 0, .int .i64 0, .string ⟨#[]⟩, .string ⟨#[]⟩, .int .i64 0, .int .i64 0, .bool false, .bool false, .int .i64 0, .int .i64 0, .bool false, .bool false, .bool false, .int .i64 0])
  have HB : Hid (Below w.heap.size w (w.alloc (.cells #[.int .i64 0, .string ⟨#[]⟩, .int .i64 0, .int .i64 0, .string ⟨#[]⟩, .string ⟨#[]⟩, .int .i64 0, .int .i64 0, .bool false, .bool false, .int .i64 0, .int .i64 0, .bool false, .bool false, .bool false, .int .i64 0] 116))) := hide (below_al _ _)
  generalize hW : w.alloc (.cells #[.int .i64 0, .string ⟨#[]⟩, .int .i64 0, .int .i64 0, .string ⟨#[]⟩, .string ⟨#[]⟩, .int .i64 0, .int .i64 0, .bool false, .bool false, .int .i64 0, .int .i64 0, .bool false, .bool false, .bool false, .int .i64 0] 116) = W0 at R HB ⊢
  clear hW
  go_wp2_with fail
  refine (unhide HD _).mono ?_
  rintro e wk1 ⟨rfl, rfl⟩
  go_wp2_with fail
  refine (unhide HL _).mono ?_
  rintro e wk2 ⟨rfl, rfl⟩
  go_wp2_with fail
  refine (unhide HA1 _).mono ?_
  rintro e wk3 ⟨rfl, rfl⟩
  go_wp2_with fail
  refine (unhide HK _ ((unhide HE).below (unhide HB))).mono ?_
  rintro e wk4 ⟨rfl, bk4⟩
  replace R := hide (cells_nx (unhide R) bk4)
  replace HB := hide (below_nx (unhide HB) bk4)
  clear bk4
  have z1 : cs.size = 16 := (unhide HI).1
  have st1 := tk_store (P := Tryz.prog) (unhide R) rfl (unhide HI)
  go_wp2
  refine bodyPost_ret (results_c1tt rfl _ _ _ _ _ _ rfl (cells_row (unhide R) cs) Tryz.underlying116 rfl (by rw [z1]; exact infoTk) _ rfl _ rfl) rfl ?_
  exact ⟨rfl, below_setRow (unhide HB) (Nat.le_refl _) _⟩
end Go.Proofs.YtloamahbghjjgaaGreatDoor

namespace Go.Proofs.YtloamahbghjjgaaGreatDoor
open Go.RowKit

set_option maxRecDepth 100000 in
set_option maxHeartbeats 4000000 in
theorem fs_text (s : ByteArray) (w : World) (cs : Array Value) (n x : Int) (h0 : 0 < s.size) (HE : Hid (Env5 w)) (HI : Hid (IsTk cs)) (HD : Hid (∀ w : World, Calls Tryz.prog 88 #[.int .u8 (s[0].toNat : Int)] w fun e w' => e = .returned (.bool false) ∧ w' = w)) (HL : Hid (∀ w : World, Calls Tryz.prog 90 #[.int .u8 (s[0].toNat : Int)] w fun e w' => e = .returned (.bool false) ∧ w' = w)) (HA1 : Hid (∀ w : World, Calls Tryz.prog 91 #[.int .u8 (s[0].toNat : Int), .string ⟨#[95, 36, 91]⟩] w fun e w' => e = .returned (.bool false) ∧ w' = w)) (HA2 : Hid (∀ w : World, Calls Tryz.prog 91 #[.int .u8 (s[0].toNat : Int), .string ⟨#[43, 45, 42, 47, 94, 38, 61, 37, 60, 62]⟩] w fun e w' => e = .returned (.bool false) ∧ w' = w))(hx : s.extract 0 1 = ⟨#[34]⟩) (HK : Hid (∀ w : World, Env5 w → Calls Tryz.prog 94 #[.string s] w fun e w' => e = .returned (.tuple #[.agg cs, .int .i64 n, .int .i64 x]) ∧ Below w.heap.size w w')) :
    Calls Tryz.prog 58 #[.string s] w fun e w' => e = .returned (.tuple #[.agg cs, .int .i64 n, .int .i64 x]) ∧ Below w.heap.size w w' := by
  have h1i : (1 : Int) ≤ (s.size : Int) := by omega
  go_enter Tryz.func58, Tryz.ntmps58
  go_upto_region 1 with fail
  have R := hide (cells_new w 116 #[.int .i64 0, .string ⟨#[]⟩, .int .i64 0, .int .i64 0, .string ⟨#[]⟩, .string ⟨#[]⟩, .int .i64 0, .int .i64 0, .bool false, .bool false, .int .i64 0, .int .i64 0, .bool false, .bool false, .bool false, .int .i64 0])
  have HB : Hid (Below w.heap.size w (w.alloc (.cells #[.int .i64 0, .string ⟨#[]⟩, .int .i64 0, .int .i64 0, .string ⟨#[]⟩, .string ⟨#[]⟩, .int .i64 0, .int .i64 0, .bool false, .bool false, .int .i64 0, .int .i64 0, .bool false, .bool false, .bool false, .int .i64 0] 116))) := hide (below_al _ _)
  generalize hW : w.alloc (.cells #[.int .i64 0, .string ⟨#[]⟩, .int .i64 0, .int .i64 0, .string ⟨#[]⟩, .string ⟨#[]⟩, .int .i64 0, .int .i64 0, .bool false, .bool false, .int .i64 0, .int .i64 0, .bool false, .bool false, .bool false, .int .i64 0] 116) = W0 at R HB ⊢
  clear hW
  go_wp2_with fail
  refine (unhide HD _).mono ?_
  rintro e wk1 ⟨rfl, rfl⟩
  go_wp2_with fail
  refine (unhide HL _).mono ?_
  rintro e wk2 ⟨rfl, rfl⟩
  go_wp2_with fail
  refine (unhide HA1 _).mono ?_
  rintro e wk3 ⟨rfl, rfl⟩
  go_wp2_with fail
  refine (unhide HA2 _).mono ?_
  rintro e wk4 ⟨rfl, rfl⟩
  go_wp2_with fail
  refine (unhide HK _ ((unhide HE).below (unhide HB))).mono ?_
  rintro e wk5 ⟨rfl, bk5⟩
  replace R := hide (cells_nx (unhide R) bk5)
  replace HB := hide (below_nx (unhide HB) bk5)
  clear bk5
  have z1 : cs.size = 16 := (unhide HI).1
  have st1 := tk_store (P := Tryz.prog) (unhide R) rfl (unhide HI)
  go_wp2
  refine bodyPost_ret (results_c1tt rfl _ _ _ _ _ _ rfl (cells_row (unhide R) cs) Tryz.underlying116 rfl (by rw [z1]; exact infoTk) _ rfl _ rfl) rfl ?_
  exact ⟨rfl, below_setRow (unhide HB) (Nat.le_refl _) _⟩
set_option maxRecDepth 100000 in
set_option maxHeartbeats 4000000 in
theorem fs_fail (s : ByteArray) (w : World) (cs : Array Value) (n x : Int) (h0 : 0 < s.size) (HE : Hid (Env5 w)) (HI : Hid (IsTk cs)) (HD : Hid (∀ w : World, Calls Tryz.prog 88 #[.int .u8 (s[0].toNat : Int)] w fun e w' => e = .returned (.bool false) ∧ w' = w)) (HL : Hid (∀ w : World, Calls Tryz.prog 90 #[.int .u8 (s[0].toNat : Int)] w fun e w' => e = .returned (.bool false) ∧ w' = w)) (HA1 : Hid (∀ w : World, Calls Tryz.prog 91 #[.int .u8 (s[0].toNat : Int), .string ⟨#[95, 36, 91]⟩] w fun e w' => e = .returned (.bool false) ∧ w' = w)) (HA2 : Hid (∀ w : World, Calls Tryz.prog 91 #[.int .u8 (s[0].toNat : Int), .string ⟨#[43, 45, 42, 47, 94, 38, 61, 37, 60, 62]⟩] w fun e w' => e = .returned (.bool false) ∧ w' = w))(hx : s.extract 0 1 = ⟨#[35]⟩) (HK : Hid (∀ w : World, Env5 w → Calls Tryz.prog 95 #[.string s] w fun e w' => e = .returned (.tuple #[.agg cs, .int .i64 n, .int .i64 x]) ∧ Below w.heap.size w w')) :
    Calls Tryz.prog 58 #[.string s] w fun e w' => e = .returned (.tuple #[.agg cs, .int .i64 n, .int .i64 x]) ∧ Below w.heap.size w w' := by
  have h1i : (1 : Int) ≤ (s.size : Int) := by omega
  go_enter Tryz.func58, Tryz.ntmps58
  go_upto_region 1 with fail
  have R := hide (cells_new w 116 #[.int .i64 0, .string ⟨#[]⟩, .int .i64 0, .int .i64 0, .string ⟨#[]⟩, .string ⟨#[]⟩, .int .i64 0, .int .i64 0, .bool false, .bool false, .int .i64 0, .int .i64 0, .bool false, .bool false, .bool false, .int .i64 0])
  have HB : Hid (Below w.heap.size w (w.alloc (.cells #[.int .i64 0, .string ⟨#[]⟩, .int .i64 0, .int .i64 0, .string ⟨#[]⟩, .string ⟨#[]⟩, .int .i64 0, .int .i64 0, .bool false, .bool false, .int .i64 0, .int .i64 0, .bool false, .bool false, .bool false, .int .i64 0] 116))) := hide (below_al _ _)
  generalize hW : w.alloc (.cells #[.int .i64 0, .string ⟨#[]⟩, .int .i64 0, .int .i64 0, .string ⟨#[]⟩, .string ⟨#[]⟩, .int .i64 0, .int .i64 0, .bool false, .bool false, .int .i64 0, .int .i64 0, .bool false, .bool false, .bool false, .int .i64 0] 116) = W0 at R HB ⊢
  clear hW
  go_wp2_with fail
  refine (unhide HD _).mono ?_
  rintro e wk1 ⟨rfl, rfl⟩
  go_wp2_with fail
  refine (unhide HL _).mono ?_
  rintro e wk2 ⟨rfl, rfl⟩
  go_wp2_with fail
  refine (unhide HA1 _).mono ?_
  rintro e wk3 ⟨rfl, rfl⟩
  go_wp2_with fail
  refine (unhide HA2 _).mono ?_
  rintro e wk4 ⟨rfl, rfl⟩
  go_wp2_with fail
  refine (unhide HK _ ((unhide HE).below (unhide HB))).mono ?_
  rintro e wk5 ⟨rfl, bk5⟩
  replace R := hide (cells_nx (unhide R) bk5)
  replace HB := hide (below_nx (unhide HB) bk5)
  clear bk5
  have z1 : cs.size = 16 := (unhide HI).1
  have st1 := tk_store (P := Tryz.prog) (unhide R) rfl (unhide HI)
  go_wp2
  refine bodyPost_ret (results_c1tt rfl _ _ _ _ _ _ rfl (cells_row (unhide R) cs) Tryz.underlying116 rfl (by rw [z1]; exact infoTk) _ rfl _ rfl) rfl ?_
  exact ⟨rfl, below_setRow (unhide HB) (Nat.le_refl _) _⟩
set_option maxRecDepth 100000 in
set_option maxHeartbeats 4000000 in
theorem fs_op (s ob : ByteArray) (w : World) (h0 : 0 < s.size) (HE : Hid (Env5 w)) (HD : Hid (∀ w : World, Calls Tryz.prog 88 #[.int .u8 (s[0].toNat : Int)] w fun e w' => e = .returned (.bool false) ∧ w' = w)) (HL : Hid (∀ w : World, Calls Tryz.prog 90 #[.int .u8 (s[0].toNat : Int)] w fun e w' => e = .returned (.bool false) ∧ w' = w)) (HA1 : Hid (∀ w : World, Calls Tryz.prog 91 #[.int .u8 (s[0].toNat : Int), .string ⟨#[95, 36, 91]⟩] w fun e w' => e = .returned (.bool false) ∧ w' = w)) (HA2 : Hid (∀ w : World, Calls Tryz.prog 91 #[.int .u8 (s[0].toNat : Int), .string ⟨#[43, 45, 42, 47, 94, 38, 61, 37, 60, 62]⟩] w fun e w' => e = .returned (.bool true) ∧ w' = w)) (HK : Hid (∀ w : World, twoTab w → Calls Tryz.prog 93 #[.string s] w fun e w' => e = .returned (.string ob) ∧ w' = w)) :
    Calls Tryz.prog 58 #[.string s] w fun e w' => e = .returned (.tuple #[.agg #[.int .i64 5, .string ob, .int .i64 0, .int .i64 0, .string ⟨#[]⟩, .string ⟨#[]⟩, .int .i64 0, .int .i64 0, .bool false, .bool false, .int .i64 0, .int .i64 0, .bool false, .bool false, .bool false, .int .i64 0], .int .i64 (ob.size : Int), .int .i64 0]) ∧ Below w.heap.size w w' := by
  go_enter Tryz.func58, Tryz.ntmps58
  go_upto_region 1 with fail
  have R := hide (cells_new w 116 #[.int .i64 0, .string ⟨#[]⟩, .int .i64 0, .int .i64 0, .string ⟨#[]⟩, .string ⟨#[]⟩, .int .i64 0, .int .i64 0, .bool false, .bool false, .int .i64 0, .int .i64 0, .bool false, .bool false, .bool false, .int .i64 0])
  have HB : Hid (Below w.heap.size w (w.alloc (.cells #[.int .i64 0, .string ⟨#[]⟩, .int .i64 0, .int .i64 0, .string ⟨#[]⟩, .string ⟨#[]⟩, .int .i64 0, .int .i64 0, .bool false, .bool false, .int .i64 0, .int .i64 0, .bool false, .bool false, .bool false, .int .i64 0] 116))) := hide (below_al _ _)
  generalize hW : w.alloc (.cells #[.int .i64 0, .string ⟨#[]⟩, .int .i64 0, .int .i64 0, .string ⟨#[]⟩, .string ⟨#[]⟩, .int .i64 0, .int .i64 0, .bool false, .bool false, .int .i64 0, .int .i64 0, .bool false, .bool false, .bool false, .int .i64 0] 116) = W0 at R HB ⊢
  clear hW
  go_wp2_with fail
  refine (unhide HD _).mono ?_
  rintro e wk1 ⟨rfl, rfl⟩
  go_wp2_with fail
  refine (unhide HL _).mono ?_
  rintro e wk2 ⟨rfl, rfl⟩
  go_wp2_with fail
  refine (unhide HA1 _).mono ?_
  rintro e wk3 ⟨rfl, rfl⟩
  go_wp2_with fail
  refine (unhide HA2 _).mono ?_
  rintro e wk4 ⟨rfl, rfl⟩
  go_wp2_with fail
  refine (unhide HK _ ((unhide HE).below (unhide HB)).tw).mono ?_
  rintro e wk5 ⟨rfl, rfl⟩
  obtain ⟨r_0, r_1, r_2, r_3, r_4, r_5, r_6, r_7, r_8, r_9, r_10, r_11, r_12, r_13, r_14, r_15⟩ := cells16 (unhide R)
  obtain ⟨fz_0, fz_1, fz_2, fz_3, fz_4, fz_5, fz_6, fz_7, fz_8, fz_9, fz_10, fz_11, fz_12, fz_13, fz_14, fz_15⟩ := frz16 (unhide R)
  go_wp2
  refine bodyPost_ret (results_c1tt rfl _ _ _ _ _ _ rfl (cells_set16 (unhide R) _ _ _ _ _ _ _ _ _ _ _ _ _ _ _ _) Tryz.underlying116 rfl (by exact infoTk) _ rfl _ rfl) rfl ?_
  exact ⟨rfl, below_set16 (unhide HB) (Nat.le_refl _) _ _ _ _ _ _ _ _ _ _ _ _ _ _ _ _⟩
end Go.Proofs.YtloamahbghjjgaaGreatDoor

namespace Go.Proofs.YtloamahbghjjgaaGreatDoor
open Go.RowKit

set_option maxRecDepth 100000 in
set_option maxHeartbeats 4000000 in
theorem fs_open (s : ByteArray) (w : World) (h0 : 0 < s.size) (HD : Hid (∀ w : World, Calls Tryz.prog 88 #[.int .u8 (s[0].toNat : Int)] w fun e w' => e = .returned (.bool false) ∧ w' = w)) (HL : Hid (∀ w : World, Calls Tryz.prog 90 #[.int .u8 (s[0].toNat : Int)] w fun e w' => e = .returned (.bool false) ∧ w' = w)) (HA1 : Hid (∀ w : World, Calls Tryz.prog 91 #[.int .u8 (s[0].toNat : Int), .string ⟨#[95, 36, 91]⟩] w fun e w' => e = .returned (.bool false) ∧ w' = w)) (HA2 : Hid (∀ w : World, Calls Tryz.prog 91 #[.int .u8 (s[0].toNat : Int), .string ⟨#[43, 45, 42, 47, 94, 38, 61, 37, 60, 62]⟩] w fun e w' => e = .returned (.bool false) ∧ w' = w)) (hx : s.extract 0 1 = ⟨#[40]⟩) :
    Calls Tryz.prog 58 #[.string s] w fun e w' => e = .returned (.tuple #[.agg #[.int .i64 6, .string ⟨#[]⟩, .int .i64 0, .int .i64 0, .string ⟨#[]⟩, .string ⟨#[]⟩, .int .i64 0, .int .i64 0, .bool false, .bool false, .int .i64 0, .int .i64 0, .bool false, .bool false, .bool false, .int .i64 0], .int .i64 1, .int .i64 0]) ∧ Below w.heap.size w w' := by
  have h1i : (1 : Int) ≤ (s.size : Int) := by omega
  go_enter Tryz.func58, Tryz.ntmps58
  go_upto_region 1 with fail
  have R := hide (cells_new w 116 #[.int .i64 0, .string ⟨#[]⟩, .int .i64 0, .int .i64 0, .string ⟨#[]⟩, .string ⟨#[]⟩, .int .i64 0, .int .i64 0, .bool false, .bool false, .int .i64 0, .int .i64 0, .bool false, .bool false, .bool false, .int .i64 0])
  have HB : Hid (Below w.heap.size w (w.alloc (.cells #[.int .i64 0, .string ⟨#[]⟩, .int .i64 0, .int .i64 0, .string ⟨#[]⟩, .string ⟨#[]⟩, .int .i64 0, .int .i64 0, .bool false, .bool false, .int .i64 0, .int .i64 0, .bool false, .bool false, .bool false, .int .i64 0] 116))) := hide (below_al _ _)
  generalize hW : w.alloc (.cells #[.int .i64 0, .string ⟨#[]⟩, .int .i64 0, .int .i64 0, .string ⟨#[]⟩, .string ⟨#[]⟩, .int .i64 0, .int .i64 0, .bool false, .bool false, .int .i64 0, .int .i64 0, .bool false, .bool false, .bool false, .int .i64 0] 116) = W0 at R HB ⊢
  clear hW
  go_wp2_with fail
  refine (unhide HD _).mono ?_
  rintro e wk1 ⟨rfl, rfl⟩
  go_wp2_with fail
  refine (unhide HL _).mono ?_
  rintro e wk2 ⟨rfl, rfl⟩
  go_wp2_with fail
  refine (unhide HA1 _).mono ?_
  rintro e wk3 ⟨rfl, rfl⟩
  go_wp2_with fail
  refine (unhide HA2 _).mono ?_
  rintro e wk4 ⟨rfl, rfl⟩
  obtain ⟨r_0, r_1, r_2, r_3, r_4, r_5, r_6, r_7, r_8, r_9, r_10, r_11, r_12, r_13, r_14, r_15⟩ := cells16 (unhide R)
  obtain ⟨fz_0, fz_1, fz_2, fz_3, fz_4, fz_5, fz_6, fz_7, fz_8, fz_9, fz_10, fz_11, fz_12, fz_13, fz_14, fz_15⟩ := frz16 (unhide R)
  go_wp2
  refine bodyPost_ret (results_c1tt rfl _ _ _ _ _ _ rfl (cells_set16 (unhide R) _ _ _ _ _ _ _ _ _ _ _ _ _ _ _ _) Tryz.underlying116 rfl (by exact infoTk) _ rfl _ rfl) rfl ?_
  exact ⟨rfl, below_set16 (unhide HB) (Nat.le_refl _) _ _ _ _ _ _ _ _ _ _ _ _ _ _ _ _⟩
set_option maxRecDepth 100000 in
set_option maxHeartbeats 4000000 in
theorem fs_close (s : ByteArray) (w : World) (h0 : 0 < s.size) (HD : Hid (∀ w : World, Calls Tryz.prog 88 #[.int .u8 (s[0].toNat : Int)] w fun e w' => e = .returned (.bool false) ∧ w' = w)) (HL : Hid (∀ w : World, Calls Tryz.prog 90 #[.int .u8 (s[0].toNat : Int)] w fun e w' => e = .returned (.bool false) ∧ w' = w)) (HA1 : Hid (∀ w : World, Calls Tryz.prog 91 #[.int .u8 (s[0].toNat : Int), .string ⟨#[95, 36, 91]⟩] w fun e w' => e = .returned (.bool false) ∧ w' = w)) (HA2 : Hid (∀ w : World, Calls Tryz.prog 91 #[.int .u8 (s[0].toNat : Int), .string ⟨#[43, 45, 42, 47, 94, 38, 61, 37, 60, 62]⟩] w fun e w' => e = .returned (.bool false) ∧ w' = w)) (hx : s.extract 0 1 = ⟨#[41]⟩) :
    Calls Tryz.prog 58 #[.string s] w fun e w' => e = .returned (.tuple #[.agg #[.int .i64 7, .string ⟨#[]⟩, .int .i64 0, .int .i64 0, .string ⟨#[]⟩, .string ⟨#[]⟩, .int .i64 0, .int .i64 0, .bool false, .bool false, .int .i64 0, .int .i64 0, .bool false, .bool false, .bool false, .int .i64 0], .int .i64 1, .int .i64 0]) ∧ Below w.heap.size w w' := by
  have h1i : (1 : Int) ≤ (s.size : Int) := by omega
  go_enter Tryz.func58, Tryz.ntmps58
  go_upto_region 1 with fail
  have R := hide (cells_new w 116 #[.int .i64 0, .string ⟨#[]⟩, .int .i64 0, .int .i64 0, .string ⟨#[]⟩, .string ⟨#[]⟩, .int .i64 0, .int .i64 0, .bool false, .bool false, .int .i64 0, .int .i64 0, .bool false, .bool false, .bool false, .int .i64 0])
  have HB : Hid (Below w.heap.size w (w.alloc (.cells #[.int .i64 0, .string ⟨#[]⟩, .int .i64 0, .int .i64 0, .string ⟨#[]⟩, .string ⟨#[]⟩, .int .i64 0, .int .i64 0, .bool false, .bool false, .int .i64 0, .int .i64 0, .bool false, .bool false, .bool false, .int .i64 0] 116))) := hide (below_al _ _)
  generalize hW : w.alloc (.cells #[.int .i64 0, .string ⟨#[]⟩, .int .i64 0, .int .i64 0, .string ⟨#[]⟩, .string ⟨#[]⟩, .int .i64 0, .int .i64 0, .bool false, .bool false, .int .i64 0, .int .i64 0, .bool false, .bool false, .bool false, .int .i64 0] 116) = W0 at R HB ⊢
  clear hW
  go_wp2_with fail
  refine (unhide HD _).mono ?_
  rintro e wk1 ⟨rfl, rfl⟩
  go_wp2_with fail
  refine (unhide HL _).mono ?_
  rintro e wk2 ⟨rfl, rfl⟩
  go_wp2_with fail
  refine (unhide HA1 _).mono ?_
  rintro e wk3 ⟨rfl, rfl⟩
  go_wp2_with fail
  refine (unhide HA2 _).mono ?_
  rintro e wk4 ⟨rfl, rfl⟩
  obtain ⟨r_0, r_1, r_2, r_3, r_4, r_5, r_6, r_7, r_8, r_9, r_10, r_11, r_12, r_13, r_14, r_15⟩ := cells16 (unhide R)
  obtain ⟨fz_0, fz_1, fz_2, fz_3, fz_4, fz_5, fz_6, fz_7, fz_8, fz_9, fz_10, fz_11, fz_12, fz_13, fz_14, fz_15⟩ := frz16 (unhide R)
  go_wp2
  refine bodyPost_ret (results_c1tt rfl _ _ _ _ _ _ rfl (cells_set16 (unhide R) _ _ _ _ _ _ _ _ _ _ _ _ _ _ _ _) Tryz.underlying116 rfl (by exact infoTk) _ rfl _ rfl) rfl ?_
  exact ⟨rfl, below_set16 (unhide HB) (Nat.le_refl _) _ _ _ _ _ _ _ _ _ _ _ _ _ _ _ _⟩
set_option maxRecDepth 100000 in
set_option maxHeartbeats 4000000 in
theorem fs_comma (s : ByteArray) (w : World) (h0 : 0 < s.size) (HD : Hid (∀ w : World, Calls Tryz.prog 88 #[.int .u8 (s[0].toNat : Int)] w fun e w' => e = .returned (.bool false) ∧ w' = w)) (HL : Hid (∀ w : World, Calls Tryz.prog 90 #[.int .u8 (s[0].toNat : Int)] w fun e w' => e = .returned (.bool false) ∧ w' = w)) (HA1 : Hid (∀ w : World, Calls Tryz.prog 91 #[.int .u8 (s[0].toNat : Int), .string ⟨#[95, 36, 91]⟩] w fun e w' => e = .returned (.bool false) ∧ w' = w)) (HA2 : Hid (∀ w : World, Calls Tryz.prog 91 #[.int .u8 (s[0].toNat : Int), .string ⟨#[43, 45, 42, 47, 94, 38, 61, 37, 60, 62]⟩] w fun e w' => e = .returned (.bool false) ∧ w' = w)) (hx : s.extract 0 1 = ⟨#[44]⟩) :
    Calls Tryz.prog 58 #[.string s] w fun e w' => e = .returned (.tuple #[.agg #[.int .i64 8, .string ⟨#[]⟩, .int .i64 0, .int .i64 0, .string ⟨#[]⟩, .string ⟨#[]⟩, .int .i64 0, .int .i64 0, .bool false, .bool false, .int .i64 0, .int .i64 0, .bool false, .bool false, .bool false, .int .i64 0], .int .i64 1, .int .i64 0]) ∧ Below w.heap.size w w' := by
  have h1i : (1 : Int) ≤ (s.size : Int) := by omega
  go_enter Tryz.func58, Tryz.ntmps58
  go_upto_region 1 with fail
  have R := hide (cells_new w 116 #[.int .i64 0, .string ⟨#[]⟩, .int .i64 0, .int .i64 0, .string ⟨#[]⟩, .string ⟨#[]⟩, .int .i64 0, .int .i64 0, .bool false, .bool false, .int .i64 0, .int .i64 0, .bool false, .bool false, .bool false, .int .i64 0])
  have HB : Hid (Below w.heap.size w (w.alloc (.cells #[.int .i64 0, .string ⟨#[]⟩, .int .i64 0, .int .i64 0, .string ⟨#[]⟩, .string ⟨#[]⟩, .int .i64 0, .int .i64 0, .bool false, .bool false, .int .i64 0, .int .i64 0, .bool false, .bool false, .bool false, .int .i64 0] 116))) := hide (below_al _ _)
  generalize hW : w.alloc (.cells #[.int .i64 0, .string ⟨#[]⟩, .int .i64 0, .int .i64 0, .string ⟨#[]⟩, .string ⟨#[]⟩, .int .i64 0, .int .i64 0, .bool false, .bool false, .int .i64 0, .int .i64 0, .bool false, .bool false, .bool false, .int .i64 0] 116) = W0 at R HB ⊢
  clear hW
  go_wp2_with fail
  refine (unhide HD _).mono ?_
  rintro e wk1 ⟨rfl, rfl⟩
  go_wp2_with fail
  refine (unhide HL _).mono ?_
  rintro e wk2 ⟨rfl, rfl⟩
  go_wp2_with fail
  refine (unhide HA1 _).mono ?_
  rintro e wk3 ⟨rfl, rfl⟩
  go_wp2_with fail
  refine (unhide HA2 _).mono ?_
  rintro e wk4 ⟨rfl, rfl⟩
  obtain ⟨r_0, r_1, r_2, r_3, r_4, r_5, r_6, r_7, r_8, r_9, r_10, r_11, r_12, r_13, r_14, r_15⟩ := cells16 (unhide R)
  obtain ⟨fz_0, fz_1, fz_2, fz_3, fz_4, fz_5, fz_6, fz_7, fz_8, fz_9, fz_10, fz_11, fz_12, fz_13, fz_14, fz_15⟩ := frz16 (unhide R)
  go_wp2
  refine bodyPost_ret (results_c1tt rfl _ _ _ _ _ _ rfl (cells_set16 (unhide R) _ _ _ _ _ _ _ _ _ _ _ _ _ _ _ _) Tryz.underlying116 rfl (by exact infoTk) _ rfl _ rfl) rfl ?_
  exact ⟨rfl, below_set16 (unhide HB) (Nat.le_refl _) _ _ _ _ _ _ _ _ _ _ _ _ _ _ _ _⟩
set_option maxRecDepth 100000 in
set_option maxHeartbeats 4000000 in
theorem fs_none (s : ByteArray) (w : World) (h0 : 0 < s.size) (HD : Hid (∀ w : World, Calls Tryz.prog 88 #[.int .u8 (s[0].toNat : Int)] w fun e w' => e = .returned (.bool false) ∧ w' = w)) (HL : Hid (∀ w : World, Calls Tryz.prog 90 #[.int .u8 (s[0].toNat : Int)] w fun e w' => e = .returned (.bool false) ∧ w' = w)) (HA1 : Hid (∀ w : World, Calls Tryz.prog 91 #[.int .u8 (s[0].toNat : Int), .string ⟨#[95, 36, 91]⟩] w fun e w' => e = .returned (.bool false) ∧ w' = w)) (HA2 : Hid (∀ w : World, Calls Tryz.prog 91 #[.int .u8 (s[0].toNat : Int), .string ⟨#[43, 45, 42, 47, 94, 38, 61, 37, 60, 62]⟩] w fun e w' => e = .returned (.bool false) ∧ w' = w)) (cb : ByteArray) (hx : s.extract 0 1 = cb) (n1 : (cb.toList == [34]) = false) (n2 : (cb.toList == [35]) = false) (n3 : (cb.toList == [40]) = false) (n4 : (cb.toList == [41]) = false) (n5 : (cb.toList == [44]) = false) :
    Calls Tryz.prog 58 #[.string s] w fun e w' => e = .returned (.tuple #[.agg #[.int .i64 0, .string ⟨#[]⟩, .int .i64 0, .int .i64 0, .string ⟨#[]⟩, .string ⟨#[]⟩, .int .i64 0, .int .i64 0, .bool false, .bool false, .int .i64 0, .int .i64 0, .bool false, .bool false, .bool false, .int .i64 0], .int .i64 0, .int .i64 4]) ∧ Below w.heap.size w w' := by
  have h1i : (1 : Int) ≤ (s.size : Int) := by omega
  go_enter Tryz.func58, Tryz.ntmps58
  go_upto_region 1 with fail
  have R := hide (cells_new w 116 #[.int .i64 0, .string ⟨#[]⟩, .int .i64 0, .int .i64 0, .string ⟨#[]⟩, .string ⟨#[]⟩, .int .i64 0, .int .i64 0, .bool false, .bool false, .int .i64 0, .int .i64 0, .bool false, .bool false, .bool false, .int .i64 0])
  have HB : Hid (Below w.heap.size w (w.alloc (.cells #[.int .i64 0, .string ⟨#[]⟩, .int .i64 0, .int .i64 0, .string ⟨#[]⟩, .string ⟨#[]⟩, .int .i64 0, .int .i64 0, .bool false, .bool false, .int .i64 0, .int .i64 0, .bool false, .bool false, .bool false, .int .i64 0] 116))) := hide (below_al _ _)
  generalize hW : w.alloc (.cells #[.int .i64 0, .string ⟨#[]⟩, .int .i64 0, .int .i64 0, .string ⟨#[]⟩, .string ⟨#[]⟩, .int .i64 0, .int .i64 0, .bool false, .bool false, .int .i64 0, .int .i64 0, .bool false, .bool false, .bool false, .int .i64 0] 116) = W0 at R HB ⊢
  clear hW
  go_wp2_with fail
  refine (unhide HD _).mono ?_
  rintro e wk1 ⟨rfl, rfl⟩
  go_wp2_with fail
  refine (unhide HL _).mono ?_
  rintro e wk2 ⟨rfl, rfl⟩
  go_wp2_with fail
  refine (unhide HA1 _).mono ?_
  rintro e wk3 ⟨rfl, rfl⟩
  go_wp2_with fail
  refine (unhide HA2 _).mono ?_
  rintro e wk4 ⟨rfl, rfl⟩
  obtain ⟨r_0, r_1, r_2, r_3, r_4, r_5, r_6, r_7, r_8, r_9, r_10, r_11, r_12, r_13, r_14, r_15⟩ := cells16 (unhide R)
  obtain ⟨fz_0, fz_1, fz_2, fz_3, fz_4, fz_5, fz_6, fz_7, fz_8, fz_9, fz_10, fz_11, fz_12, fz_13, fz_14, fz_15⟩ := frz16 (unhide R)
  go_wp2
  refine bodyPost_ret (results_c1tt rfl _ _ _ _ _ _ rfl (cells_set16 (unhide R) _ _ _ _ _ _ _ _ _ _ _ _ _ _ _ _) Tryz.underlying116 rfl (by exact infoTk) _ rfl _ rfl) rfl ?_
  exact ⟨rfl, below_set16 (unhide HB) (Nat.le_refl _) _ _ _ _ _ _ _ _ _ _ _ _ _ _ _ _⟩
end Go.Proofs.YtloamahbghjjgaaGreatDoor
