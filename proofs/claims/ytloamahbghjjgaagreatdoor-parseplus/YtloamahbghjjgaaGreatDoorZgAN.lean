/- The contract of named. -/
import Derived.BigQuiet
import Derived.BigRegion
import Derived.Deep.AppendLies
import Derived.Deep.CutBlock
import Derived.Deep.CutRange
import Derived.Deep.DeepFit
import Derived.Deep.QuietTactic
import Derived.Deep.RegionHeld3
import Derived.Deep.WholeRow
import Derived.Laws.Bits64b
import Derived.Laws.CopyOwn
import Derived.Laws.IdiomStrings
import Derived.Laws.Rows
import Derived.Laws.StructEq
import Derived.Laws.Tables
import Derived.Lib.Atoi
import Derived.Lib.AtoiErrMem
import Derived.Lib.BitFns
import Derived.Lib.CutLaws
import Derived.Lib.IndexMore
import Derived.Lib.ItoaMem
import Derived.Lib.ItoaNum
import Derived.Lib.Join
import Derived.Lib.Replace
import Derived.Lib.Walk
import Derived.Shelf.Bits.Mul64
import Derived.Shelf.LaysM
import Derived.Shelf.Small.Bits
import Derived.Shelf.Small.Strs
import Derived.Shelf.Small.Utf8
import Derived.Shelf.Small.Wraps
import Derived.Shelf.Strconv.Atoi
import Derived.Shelf.Strconv.Itoa0
import Derived.Shelf.Strconv.Itoa1
import Derived.Shelf.Strconv.Itoa2
import Derived.Shelf.Strconv.Itoa3
import Derived.Shelf.Strings.AsciiSet
import Derived.Shelf.Strings.Builder1
import Derived.Shelf.Strings.Builder2
import Derived.Shelf.Strings.Count
import Derived.Shelf.Strings.Cut
import Derived.Shelf.Strings.OnBuilder
import Derived.Shelf.Strings.Prefix
import Derived.Shelf.Strings.Replace
import Derived.Shelf.Strings.Runes
import Derived.Shelf.Strings.Search1
import Derived.Shelf.Strings.Search2
import Derived.Shelf.Strings.Search3
import Derived.Shelf.Strings.Shaped
import Derived.Shelf.Strings.Split
import Derived.Shelf.Strings.SplitShaped
import Derived.Shelf.Strings.Trim
import Derived.Shelf.Unicode.DecodeSlow
import Derived.Test.YtloamahbghjjgaaGreatDoorProg
import Derived.Test.YtloamahbghjjgaaGreatDoorRows
import Derived.WalkKit
import Derived.WalkLawsBesides
import Derived.WalkSmall
import Derived.WalkSpells
import Derived.Test.YtloamahbghjjgaaGreatDoorZgAA
import Derived.Test.YtloamahbghjjgaaGreatDoorZgAB
import Derived.Test.YtloamahbghjjgaaGreatDoorZgAC
import Derived.Test.YtloamahbghjjgaaGreatDoorZgAE
import Derived.Test.YtloamahbghjjgaaGreatDoorZgAF
import Derived.Test.YtloamahbghjjgaaGreatDoorZgAG
import Derived.Test.YtloamahbghjjgaaGreatDoorZgAH
import Derived.Test.YtloamahbghjjgaaGreatDoorZgAI
import Derived.Test.YtloamahbghjjgaaGreatDoorZgAJ
import Derived.Test.YtloamahbghjjgaaGreatDoorZgAK
import Derived.Test.YtloamahbghjjgaaGreatDoorZgAL
import Derived.Test.YtloamahbghjjgaaGreatDoorZgAM
namespace Go.Proofs.YtloamahbghjjgaaGreatDoor
open Go.RowKit

theorem named5_val (s : ByteArray) (w : World) (hs : s.size ≤ 1000) (he : Env5 w) :
    Calls Tryz.prog 92 #[.string s] w fun e w' => e = .returned (.tuple #[.agg (nameTok s.data.toList).1.cells, .int .i64 (nameTok s.data.toList).2.1, .int .i64 (nameTok s.data.toList).2.2]) ∧ Below w.heap.size w w' := by
  obtain ⟨l, hl⟩ : ∃ l, s.data.toList = l := ⟨_, rfl⟩
  rw [hl]
  obtain ⟨rb, hrb⟩ : ∃ rb : ByteArray, rb = ⟨(runR l).toArray⟩ := ⟨_, rfl⟩
  have hz : ((rb.size : Nat) : Int) = (((runR l).length : Nat) : Int) := by rw [hrb]; rfl
  have hle := tk_len inRunC s.data.toList
  rw [hl] at hle
  have hsl : l.length = s.size := by rw [← hl]; rfl
  have hsz : rb.size ≤ s.size := by rw [hrb, ← hsl]; exact hle
  have hrl : rb.data.toList = runR l := by rw [hrb]
  obtain ⟨ub, hub⟩ : ∃ ub : ByteArray, ub = ⟨((runR l).map upC).toArray⟩ := ⟨_, rfl⟩
  have HL := hide (fun w => lead_run s w (by unfold maxLen; omega))
  have HU := hide (fun w => upper_val rb w (by omega))
  have HN := hide (fun w => name_val rb w)
  have HF := hide (fun w (he : Env4 w) => parse4_val rb w (by omega) he)
  have HB1 := hide (fun w => unblanked_val (s.extract rb.size s.size) w)
  have HP1 := hide (fun w => Tryz.strings_HasPrefix ⟨(unbl (l.dropWhile inRunC)).toArray⟩ ⟨#[40]⟩ w)
  have hcall : Lib.hasPrefix (⟨(unbl (l.dropWhile inRunC)).toArray⟩ : ByteArray).data.toList (⟨#[40]⟩ : ByteArray).data.toList = callB l := by
    unfold callB
    show Lib.hasPrefix (unbl (l.dropWhile inRunC)) [40] = _
    unfold Lib.hasPrefix
    cases unbl (l.dropWhile inRunC) with
    | nil => rfl
    | cons d m =>
      rw [List.head?_cons, Bool.eq_iff_iff]
      simp only [List.isPrefixOf, Bool.and_true, beq_iff_eq, Option.some.injEq]
      exact eq_comm
  rw [hcall] at HP1
  rw [hl, show (⟨(l.takeWhile inRunC).toArray⟩ : ByteArray) = rb from hrb.symm] at HL
  rw [show mapB upC rb = ub by rw [hub]; unfold mapB; rw [hrl]] at HU
  rw [hrl] at HN HF
  have hdr : (s.extract rb.size s.size).data.toList = l.dropWhile inRunC := by
    rw [ext_drop, hl]
    show l.drop rb.size = _
    rw [show rb.size = (runR l).length by omega]
    exact tw_drop inRunC l
  rw [hdr] at HB1
  have i1 : (0 : Int) ≤ (rb.size : Int) := by omega
  have i2 : (rb.size : Int) ≤ (s.size : Int) := by omega
  have EW : (wordT (runR l)).cells = #[.int .i64 4, .string ub, .int .i64 0, .int .i64 0, .string ⟨#[]⟩, .string ⟨#[]⟩, .int .i64 0, .int .i64 0, .bool false, .bool false, .int .i64 0, .int .i64 0, .bool false, .bool false, .bool false, .int .i64 0] := by rw [hub]; rfl
  have HE := hide he
  cases q0 : nameG (runR l)
  · rw [q0] at HN
    by_cases q2 : (fullP (runR l)).2 = 0
    · have E : nameTok l = (⟨⟨3, emp, 0, 0, (fullP (runR l)).1, 0⟩, (runR l).length, 0⟩ : Tok) := by unfold nameTok; rw [q0, Bool.false_and, if_neg (by decide), if_pos q2]
      rw [E]
      show Calls _ _ _ _ fun e w' => e = Ending.returned (Value.tuple #[Value.agg (Tk.cells ⟨3, emp, 0, 0, (fullP (runR l)).1, 0⟩), Value.int .i64 (((runR l).length : Nat) : Int), _]) ∧ _
      rw [← hz]
      rw [q2] at HF
      generalize (fullP (runR l)).1 = X at HF ⊢
      obtain ⟨bk, sh, ⟨c1, r1, f1, g1⟩, ⟨c2, r2, f2, g2⟩, wd⟩ := X
      exact nd_ref s rb ub w HE HL HU HN bk sh c1 r1 c2 r2 f1 g1 f2 g2 wd HF
    by_cases q3 : (fullP (runR l)).2 = 4
    · have E : nameTok l = badT (fullP (runR l)).2 := by unfold nameTok; rw [q0, Bool.false_and, if_neg (by decide), if_neg q2, if_neg (fun e => by cases e.2)]
      rw [E]
      rw [q3] at HF ⊢
      generalize (fullP (runR l)).1 = X at HF ⊢
      obtain ⟨bk, sh, ⟨c1, r1, f1, g1⟩, ⟨c2, r2, f2, g2⟩, wd⟩ := X
      exact nd_form s rb ub w HE HL HU HN bk sh c1 r1 c2 r2 f1 g1 f2 g2 wd HF
    · have E : nameTok l = badT (fullP (runR l)).2 := by unfold nameTok; rw [q0, Bool.false_and, if_neg (by decide), if_neg q2, if_neg (fun e => by cases e.2)]
      rw [E]
      generalize (fullP (runR l)).1 = X at HF ⊢
      obtain ⟨bk, sh, ⟨c1, r1, f1, g1⟩, ⟨c2, r2, f2, g2⟩, wd⟩ := X
      exact nd_bad s rb ub w HE HL HU HN bk sh c1 r1 c2 r2 f1 g1 f2 g2 wd _ HF q2 q3
  · rw [q0] at HN
    cases q1 : callB l
    · rw [q1] at HP1
      by_cases q2 : (fullP (runR l)).2 = 0
      · have E : nameTok l = (⟨⟨3, emp, 0, 0, (fullP (runR l)).1, 0⟩, (runR l).length, 0⟩ : Tok) := by unfold nameTok; rw [q0, q1, if_neg (by decide), if_pos q2]
        rw [E]
        show Calls _ _ _ _ fun e w' => e = Ending.returned (Value.tuple #[Value.agg (Tk.cells ⟨3, emp, 0, 0, (fullP (runR l)).1, 0⟩), Value.int .i64 (((runR l).length : Nat) : Int), _]) ∧ _
        rw [← hz]
        rw [q2] at HF
        generalize (fullP (runR l)).1 = X at HF ⊢
        obtain ⟨bk, sh, ⟨c1, r1, f1, g1⟩, ⟨c2, r2, f2, g2⟩, wd⟩ := X
        exact nd_ref_n s rb ub _ w HE i1 i2 HL HU HN HB1 HP1 bk sh c1 r1 c2 r2 f1 g1 f2 g2 wd HF
      by_cases q3 : (fullP (runR l)).2 = 4
      · have E : nameTok l = (⟨wordT (runR l), (runR l).length, 0⟩ : Tok) := by unfold nameTok; rw [q0, q1, if_neg (by decide), if_neg q2, if_pos ⟨q3, rfl⟩]
        rw [E]
        show Calls _ _ _ _ fun e w' => e = Ending.returned (Value.tuple #[Value.agg (wordT (runR l)).cells, Value.int .i64 (((runR l).length : Nat) : Int), _]) ∧ _
        rw [EW, ← hz]
        rw [q3] at HF
        generalize (fullP (runR l)).1 = X at HF ⊢
        obtain ⟨bk, sh, ⟨c1, r1, f1, g1⟩, ⟨c2, r2, f2, g2⟩, wd⟩ := X
        exact nd_word s rb ub _ w HE i1 i2 HL HU HN HB1 HP1 bk sh c1 r1 c2 r2 f1 g1 f2 g2 wd HF
      · have E : nameTok l = badT (fullP (runR l)).2 := by unfold nameTok; rw [q0, q1, if_neg (by decide), if_neg q2, if_neg (fun e => q3 e.1)]
        rw [E]
        generalize (fullP (runR l)).1 = X at HF ⊢
        obtain ⟨bk, sh, ⟨c1, r1, f1, g1⟩, ⟨c2, r2, f2, g2⟩, wd⟩ := X
        exact nd_bad_n s rb ub _ w HE i1 i2 HL HU HN HB1 HP1 bk sh c1 r1 c2 r2 f1 g1 f2 g2 wd _ HF q2 q3
    · rw [q1] at HP1
      have E : nameTok l = (⟨wordT (runR l), (runR l).length, 0⟩ : Tok) := by unfold nameTok; rw [q0, q1, if_pos (by decide)]
      rw [E]
      show Calls _ _ _ _ fun e w' => e = Ending.returned (Value.tuple #[Value.agg (wordT (runR l)).cells, Value.int .i64 (((runR l).length : Nat) : Int), _]) ∧ _
      rw [EW, ← hz]
      exact nd_called s rb ub _ w i1 i2 HL HU HN HB1 HP1
end Go.Proofs.YtloamahbghjjgaaGreatDoor

namespace Go.Proofs.YtloamahbghjjgaaGreatDoor
open Go.RowKit

def IsTk (cs : Array Value) : Prop := cs.size = 16 ∧ cs.all (·.oneCell') = true
theorem tk_row (t : Tk) : IsTk t.cells := ⟨rfl, by simp [Tk.cells, Value.oneCell']⟩
theorem tk_store {P : Program} {w : World} {B : Nat} {t : TypeId} {old cs : Array Value} (h : CellsAt w B t old) (ho : old.size = 16) (hc : IsTk cs) : (storeCells ⟨B, 0, none⟩ cs.toList 0).run P w = .ok () (w.setRow B cs) := by
  have := run_storeCells_from (P := P) B t cs.toList 0 old w h (by rw [ho]; simp [hc.1]) (fun v hv => (Array.all_eq_true_iff_forall_mem.1 hc.2) v (by simpa using hv))
  simpa using this
theorem cells_row {w : World} {B : Nat} {t : TypeId} {cs : Array Value} (h : CellsAt w B t cs) (cs' : Array Value) : CellsAt (w.setRow B cs') B t cs' := setRow_heap w B cs cs' t (0, 0) h
set_option maxRecDepth 100000 in
set_option maxHeartbeats 4000000 in
theorem fs_num (s : ByteArray) (w : World) (cs : Array Value) (n x : Int) (h0 : 0 < s.size) (HE : Hid (Env5 w)) (HI : Hid (IsTk cs)) (HD : Hid (∀ w : World, Calls Tryz.prog 88 #[.int .u8 (s[0].toNat : Int)] w fun e w' => e = .returned (.bool true) ∧ w' = w)) (HK : Hid (∀ w : World, Env5 w → Calls Tryz.prog 89 #[.string s] w fun e w' => e = .returned (.tuple #[.agg cs, .int .i64 n, .int .i64 x]) ∧ Below w.heap.size w w')) :
    Calls Tryz.prog 58 #[.string s] w fun e w' => e = .returned (.tuple #[.agg cs, .int .i64 n, .int .i64 x]) ∧ Below w.heap.size w w' := by
  go_enter Tryz.func58, Tryz.ntmps58
  go_upto_region 1 with fail
  have R := hide (cells_new w 116 #[.int .i64 0, .string ⟨#[]⟩, .int .i64 0, .int .i64 0, .string ⟨#[]⟩, .string ⟨#[]⟩, .int .i64 0, .int .i64 0, .bool false, .bool false, .int .i64 0, .int .i64 0, .bool false, .bool false, .bool false, .int .i64 0])
  have HB : Hid (Below w.heap.size w (w.alloc (.cells #[.int .i64 0, .string ⟨#[]⟩, .int .i64 0, .int .i64 0, .string ⟨#[]⟩, .string ⟨#[]⟩, .int .i64 0, .int .i64 0, .bool false, .bool false, .int .i64 0, .int .i64 0, .bool false, .bool false, .bool false, .int .i64 0] 116))) := hide (below_al _ _)
  generalize hW : w.alloc (.cells #[.int .i64 0, .string ⟨#[]⟩, .int .i64 0, .int .i64 0, .string ⟨#[]⟩, .string ⟨#[]⟩, .int .i64 0, .int .i64 0, .bool false, .bool false, .int .i64 0, .int .i64 0, .bool false, .bool false, .bool false, .int .i64 0] 116) = W0 at R HB ⊢
  clear hW
  go_wp2_with fail
  refine (unhide HD _).mono ?_
  rintro e wk1 ⟨rfl, rfl⟩
  go_wp2_with fail
  refine (unhide HK _ ((unhide HE).below (unhide HB))).mono ?_
  rintro e wk2 ⟨rfl, bk2⟩
  replace R := hide (cells_nx (unhide R) bk2)
  replace HB := hide (below_nx (unhide HB) bk2)
  clear bk2
  have z1 : cs.size = 16 := (unhide HI).1
  have st1 := tk_store (P := Tryz.prog) (unhide R) rfl (unhide HI)
  go_wp2
  refine bodyPost_ret (results_c1tt rfl _ _ _ _ _ _ rfl (cells_row (unhide R) cs) Tryz.underlying116 rfl (by rw [z1]; exact infoTk) _ rfl _ rfl) rfl ?_
  exact ⟨rfl, below_setRow (unhide HB) (Nat.le_refl _) _⟩
set_option maxRecDepth 100000 in
set_option maxHeartbeats 4000000 in
theorem fs_let (s : ByteArray) (w : World) (cs : Array Value) (n x : Int) (h0 : 0 < s.size) (HE : Hid (Env5 w)) (HI : Hid (IsTk cs)) (HD : Hid (∀ w : World, Calls Tryz.prog 88 #[.int .u8 (s[0].toNat : Int)] w fun e w' => e = .returned (.bool false) ∧ w' = w)) (HL : Hid (∀ w : World, Calls Tryz.prog 90 #[.int .u8 (s[0].toNat : Int)] w fun e w' => e = .returned (.bool true) ∧ w' = w)) (HK : Hid (∀ w : World, Env5 w → Calls Tryz.prog 92 #[.string s] w fun e w' => e = .returned (.tuple #[.agg cs, .int .i64 n, .int .i64 x]) ∧ Below w.heap.size w w')) :
    Calls Tryz.prog 58 #[.string s] w fun e w' => e = .returned (.tuple #[.agg cs, .int .i64 n, .int .i64 x]) ∧ Below w.heap.size w w' := by
  go_enter Tryz.func58, Tryz.ntmps58
  go_upto_region 1 with fail
  have R := hide (cells_new w 116 #[.int .i64 0, .string ⟨#[]⟩, .int .i64 0, .int .i64 0, .string ⟨#[]⟩, .string ⟨#[]⟩, .int .i64 0, .int .i64 0, .bool false, .bool false, .int .i64 0, .int .i64 0, .bool false, .bool false, .bool false, .int .i64 0])
  have HB : Hid (Below w.heap.size w (w.alloc (.cells #[.int .i64 0, .string ⟨#[]⟩, .int .i64 0, .int .i64 0, .string ⟨#[]⟩, .string ⟨#[]⟩, .int .i64 0, .int .i64 0, .bool false, .bool false, .int .i64 0, .int .i64 0, .bool false, .bool false, .bool false, .int .i64 0] 116))) := hide (below_al _ _)
  generalize hW : w.alloc (.cells #[.int .i64 0, .string ⟨#[]⟩, .int .i64 0, .int .i64 0, .string ⟨#[]⟩, .string ⟨#[]⟩, .int .i64 0, .int .i64 0, .bool false, .bool false, .int .i64 0, .int .i64 0, .bool false, .bool false, .bool false, .int .i64 0] 116) = W0 at R HB ⊢
  clear hW
  go_wp2_with fail
  refine (unhide HD _).mono ?_
  rintro e wk1 ⟨rfl, rfl⟩
  go_wp2_with fail
  refine (unhide HL _).mono ?_
  rintro e wk2 ⟨rfl, rfl⟩
  go_wp2_with fail
  refine (unhide HK _ ((unhide HE).below (unhide HB))).mono ?_
  rintro e wk3 ⟨rfl, bk3⟩
  replace R := hide (cells_nx (unhide R) bk3)
  replace HB := hide (below_nx (unhide HB) bk3)
  clear bk3
  have z1 : cs.size = 16 := (unhide HI).1
  have st1 := tk_store (P := Tryz.prog) (unhide R) rfl (unhide HI)
  go_wp2
  refine bodyPost_ret (results_c1tt rfl _ _ _ _ _ _ rfl (cells_row (unhide R) cs) Tryz.underlying116 rfl (by rw [z1]; exact infoTk) _ rfl _ rfl) rfl ?_
  exact ⟨rfl, below_setRow (unhide HB) (Nat.le_refl _) _⟩
set_option maxRecDepth 100000 in
set_option maxHeartbeats 4000000 in
theorem fs_head (s : ByteArray) (w : World) (cs : Array Value) (n x : Int) (h0 : 0 < s.size) (HE : Hid (Env5 w)) (HI : Hid (IsTk cs)) (HD : Hid (∀ w : World, Calls Tryz.prog 88 #[.int .u8 (s[0].toNat : Int)] w fun e w' => e = .returned (.bool false) ∧ w' = w)) (HL : Hid (∀ w : World, Calls Tryz.prog 90 #[.int .u8 (s[0].toNat : Int)] w fun e w' => e = .returned (.bool false) ∧ w' = w)) (HA1 : Hid (∀ w : World, Calls Tryz.prog 91 #[.int .u8 (s[0].toNat : Int), .string ⟨#[95, 36, 91]⟩] w fun e w' => e = .returned (.bool true) ∧ w' = w)) (HK : Hid (∀ w : World, Env5 w → Calls Tryz.prog 92 #[.string s] w fun e w' => e = .returned (.tuple #[.agg cs, .int .i64 n, .int .i64 x]) ∧ Below w.heap.size w w')) :
    Calls Tryz.prog 58 #[.string s] w fun e w' => e = .returned (.tuple #[.agg cs, .int .i64 n, .int .i64 x]) ∧ Below w.heap.size w w' := by
  go_enter Tryz.func58, Tryz.ntmps58
  go_upto_region 1 with fail
  have R := hide (cells_new w 116 #[.int .i64 0, .string ⟨#[]⟩, .int .i64 0, .int .i64 0, .string ⟨#[]⟩, .string ⟨#[]⟩, .int .i64 0, .int .i64 0, .bool false, .bool false, .int .i64 0, .int .i64 0, .bool false, .bool false, .bool false, .int .i64 0])
  have HB : Hid (Below w.heap.size w (w.alloc (.cells #[.int .i64 0, .string ⟨#[]⟩, .int .i64 0, .int .i64 0, .string ⟨#[]⟩, .string ⟨#[]⟩, .int .i64 0, .int .i64 0, .bool false, .bool false, .int .i64 0, .int .i64 0, .bool false, .bool false, .bool false, .int .i64 0] 116))) := hide (below_al _ _)
  generalize hW : w.alloc (.cells #[.int .i64 0, .string ⟨#[]⟩, .int .i64 0, .int .i64 0, .string ⟨#[]⟩, .string ⟨#[]⟩, .int .i64 0, .int .i64 0, .bool false, .bool false, .int .i64 0, .int .i64 0, .bool false, .bool false, .bool false, .int .i64 0] 116) = W0 at R HB ⊢
  clear hW
  go_wp2_with fail
  refine (unhide HD _).mono ?_
  rintro e wk1 ⟨rfl, rfl⟩
  go_wp2_with fail
  refine (unhide HL _).mono ?_
  rintro e wk2 ⟨rfl, rfl⟩
  go_wp2_with fail
  refine (unhide HA1 _).mono ?_
  rintro e wk3 ⟨rfl, rfl⟩
  go_wp2_with fail
  refine (unhide HK _ ((unhide HE).below (unhide HB))).mono ?_
  rintro e wk4 ⟨rfl, bk4⟩
  replace R := hide (cells_nx (unhide R) bk4)
  replace HB := hide (below_nx (unhide HB) bk4)
  clear bk4
  have z1 : cs.size = 16 := (unhide HI).1
  have st1 := tk_store (P := Tryz.prog) (unhide R) rfl (unhide HI)
  go_wp2
  refine bodyPost_ret (results_c1tt rfl _ _ _ _ _ _ rfl (cells_row (unhide R) cs) Tryz.underlying116 rfl (by rw [z1]; exact infoTk) _ rfl _ rfl) rfl ?_
  exact ⟨rfl, below_setRow (unhide HB) (Nat.le_refl _) _⟩
end Go.Proofs.YtloamahbghjjgaaGreatDoor

namespace Go.Proofs.YtloamahbghjjgaaGreatDoor
open Go.RowKit

set_option maxRecDepth 100000 in
set_option maxHeartbeats 4000000 in
theorem fs_text (s : ByteArray) (w : World) (cs : Array Value) (n x : Int) (h0 : 0 < s.size) (HE : Hid (Env5 w)) (HI : Hid (IsTk cs)) (HD : Hid (∀ w : World, Calls Tryz.prog 88 #[.int .u8 (s[0].toNat : Int)] w fun e w' => e = .returned (.bool false) ∧ w' = w)) (HL : Hid (∀ w : World, Calls Tryz.prog 90 #[.int .u8 (s[0].toNat : Int)] w fun e w' => e = .returned (.bool false) ∧ w' = w)) (HA1 : Hid (∀ w : World, Calls Tryz.prog 91 #[.int .u8 (s[0].toNat : Int), .string ⟨#[95, 36, 91]⟩] w fun e w' => e = .returned (.bool false) ∧ w' = w)) (HA2 : Hid (∀ w : World, Calls Tryz.prog 91 #[.int .u8 (s[0].toNat : Int), .string ⟨#[43, 45, 42, 47, 94, 38, 61, 37, 60, 62]⟩] w fun e w' => e = .returned (.bool false) ∧ w' = w))(hx : s.extract 0 1 = ⟨#[34]⟩) (HK : Hid (∀ w : World, Env5 w → Calls Tryz.prog 94 #[.string s] w fun e w' => e = .returned (.tuple #[.agg cs, .int .i64 n, .int .i64 x]) ∧ Below w.heap.size w w')) :
    Calls Tryz.prog 58 #[.string s] w fun e w' => e = .returned (.tuple #[.agg cs, .int .i64 n, .int .i64 x]) ∧ Below w.heap.size w w' := by
  have h1i : (1 : Int) ≤ (s.size : Int) := by omega
  go_enter Tryz.func58, Tryz.ntmps58
  go_upto_region 1 with fail
  have R := hide (cells_new w 116 #[.int .i64 0, .string ⟨#[]⟩, .int .i64 0, .int .i64 0, .string ⟨#[]⟩, .string ⟨#[]⟩, .int .i64 0, .int .i64 0, .bool false, .bool false, .int .i64 0, .int .i64 0, .bool false, .bool false, .bool false, .int .i64 0])
  have HB : Hid (Below w.heap.size w (w.alloc (.cells #[.int .i64 0, .string ⟨#[]⟩, .int .i64 0, .int .i64 0, .string ⟨#[]⟩, .string ⟨#[]⟩, .int .i64 0, .int .i64 0, .bool false, .bool false, .int .i64 0, .int .i64 0, .bool false, .bool false, .bool false, .int .i64 0] 116))) := hide (below_al _ _)
  generalize hW : w.alloc (.cells #[.int .i64 0, .string ⟨#[]⟩, .int .i64 0, .int .i64 0, .string ⟨#[]⟩, .string ⟨#[]⟩, .int .i64 0, .int .i64 0, .bool false, .bool false, .int .i64 0, .int .i64 0, .bool false, .bool false, .bool false, .int .i64 0] 116) = W0 at R HB ⊢
  clear hW
  go_wp2_with fail
  refine (unhide HD _).mono ?_
  rintro e wk1 ⟨rfl, rfl⟩
  go_wp2_with fail
  refine (unhide HL _).mono ?_
  rintro e wk2 ⟨rfl, rfl⟩
  go_wp2_with fail
  refine (unhide HA1 _).mono ?_
  rintro e wk3 ⟨rfl, rfl⟩
  go_wp2_with fail
  refine (unhide HA2 _).mono ?_
  rintro e wk4 ⟨rfl, rfl⟩
  go_wp2_with fail
  refine (unhide HK _ ((unhide HE).below (unhide HB))).mono ?_
  rintro e wk5 ⟨rfl, bk5⟩
  replace R := hide (cells_nx (unhide R) bk5)
  replace HB := hide (below_nx (unhide HB) bk5)
  clear bk5
  have z1 : cs.size = 16 := (unhide HI).1
  have st1 := tk_store (P := Tryz.prog) (unhide R) rfl (unhide HI)
  go_wp2
  refine bodyPost_ret (results_c1tt rfl _ _ _ _ _ _ rfl (cells_row (unhide R) cs) Tryz.underlying116 rfl (by rw [z1]; exact infoTk) _ rfl _ rfl) rfl ?_
  exact ⟨rfl, below_setRow (unhide HB) (Nat.le_refl _) _⟩
set_option maxRecDepth 100000 in
set_option maxHeartbeats 4000000 in
theorem fs_fail (s : ByteArray) (w : World) (cs : Array Value) (n x : Int) (h0 : 0 < s.size) (HE : Hid (Env5 w)) (HI : Hid (IsTk cs)) (HD : Hid (∀ w : World, Calls Tryz.prog 88 #[.int .u8 (s[0].toNat : Int)] w fun e w' => e = .returned (.bool false) ∧ w' = w)) (HL : Hid (∀ w : World, Calls Tryz.prog 90 #[.int .u8 (s[0].toNat : Int)] w fun e w' => e = .returned (.bool false) ∧ w' = w)) (HA1 : Hid (∀ w : World, Calls Tryz.prog 91 #[.int .u8 (s[0].toNat : Int), .string ⟨#[95, 36, 91]⟩] w fun e w' => e = .returned (.bool false) ∧ w' = w)) (HA2 : Hid (∀ w : World, Calls Tryz.prog 91 #[.int .u8 (s[0].toNat : Int), .string ⟨#[43, 45, 42, 47, 94, 38, 61, 37, 60, 62]⟩] w fun e w' => e = .returned (.bool false) ∧ w' = w))(hx : s.extract 0 1 = ⟨#[35]⟩) (HK : Hid (∀ w : World, Env5 w → Calls Tryz.prog 95 #[.string s] w fun e w' => e = .returned (.tuple #[.agg cs, .int .i64 n, .int .i64 x]) ∧ Below w.heap.size w w')) :
    Calls Tryz.prog 58 #[.string s] w fun e w' => e = .returned (.tuple #[.agg cs, .int .i64 n, .int .i64 x]) ∧ Below w.heap.size w w' := by
  have h1i : (1 : Int) ≤ (s.size : Int) := by omega
  go_enter Tryz.func58, Tryz.ntmps58
  go_upto_region 1 with fail
  have R := hide (cells_new w 116 #[.int .i64 0, .string ⟨#[]⟩, .int .i64 0, .int .i64 0, .string ⟨#[]⟩, .string ⟨#[]⟩, .int .i64 0, .int .i64 0, .bool false, .bool false, .int .i64 0, .int .i64 0, .bool false, .bool false, .bool false, .int .i64 0])
  have HB : Hid (Below w.heap.size w (w.alloc (.cells #[.int .i64 0, .string ⟨#[]⟩, .int .i64 0, .int .i64 0, .string ⟨#[]⟩, .string ⟨#[]⟩, .int .i64 0, .int .i64 0, .bool false, .bool false, .int .i64 0, .int .i64 0, .bool false, .bool false, .bool false, .int .i64 0] 116))) := hide (below_al _ _)
  generalize hW : w.alloc (.cells #[.int .i64 0, .string ⟨#[]⟩, .int .i64 0, .int .i64 0, .string ⟨#[]⟩, .string ⟨#[]⟩, .int .i64 0, .int .i64 0, .bool false, .bool false, .int .i64 0, .int .i64 0, .bool false, .bool false, .bool false, .int .i64 0] 116) = W0 at R HB ⊢
  clear hW
  go_wp2_with fail
  refine (unhide HD _).mono ?_
  rintro e wk1 ⟨rfl, rfl⟩
  go_wp2_with fail
  refine (unhide HL _).mono ?_
  rintro e wk2 ⟨rfl, rfl⟩
  go_wp2_with fail
  refine (unhide HA1 _).mono ?_
  rintro e wk3 ⟨rfl, rfl⟩
  go_wp2_with fail
  refine (unhide HA2 _).mono ?_
  rintro e wk4 ⟨rfl, rfl⟩
  go_wp2_with fail
  refine (unhide HK _ ((unhide HE).below (unhide HB))).mono ?_
  rintro e wk5 ⟨rfl, bk5⟩
  replace R := hide (cells_nx (unhide R) bk5)
  replace HB := hide (below_nx (unhide HB) bk5)
  clear bk5
  have z1 : cs.size = 16 := (unhide HI).1
  have st1 := tk_store (P := Tryz.prog) (unhide R) rfl (unhide HI)
  go_wp2
  refine bodyPost_ret (results_c1tt rfl _ _ _ _ _ _ rfl (cells_row (unhide R) cs) Tryz.underlying116 rfl (by rw [z1]; exact infoTk) _ rfl _ rfl) rfl ?_
  exact ⟨rfl, below_setRow (unhide HB) (Nat.le_refl _) _⟩
set_option maxRecDepth 100000 in
set_option maxHeartbeats 4000000 in
theorem fs_op (s ob : ByteArray) (w : World) (h0 : 0 < s.size) (HE : Hid (Env5 w)) (HD : Hid (∀ w : World, Calls Tryz.prog 88 #[.int .u8 (s[0].toNat : Int)] w fun e w' => e = .returned (.bool false) ∧ w' = w)) (HL : Hid (∀ w : World, Calls Tryz.prog 90 #[.int .u8 (s[0].toNat : Int)] w fun e w' => e = .returned (.bool false) ∧ w' = w)) (HA1 : Hid (∀ w : World, Calls Tryz.prog 91 #[.int .u8 (s[0].toNat : Int), .string ⟨#[95, 36, 91]⟩] w fun e w' => e = .returned (.bool false) ∧ w' = w)) (HA2 : Hid (∀ w : World, Calls Tryz.prog 91 #[.int .u8 (s[0].toNat : Int), .string ⟨#[43, 45, 42, 47, 94, 38, 61, 37, 60, 62]⟩] w fun e w' => e = .returned (.bool true) ∧ w' = w)) (HK : Hid (∀ w : World, twoTab w → Calls Tryz.prog 93 #[.string s] w fun e w' => e = .returned (.string ob) ∧ w' = w)) :
    Calls Tryz.prog 58 #[.string s] w fun e w' => e = .returned (.tuple #[.agg #[.int .i64 5, .string ob, .int .i64 0, .int .i64 0, .string ⟨#[]⟩, .string ⟨#[]⟩, .int .i64 0, .int .i64 0, .bool false, .bool false, .int .i64 0, .int .i64 0, .bool false, .bool false, .bool false, .int .i64 0], .int .i64 (ob.size : Int), .int .i64 0]) ∧ Below w.heap.size w w' := by
  go_enter Tryz.func58, Tryz.ntmps58
  go_upto_region 1 with fail
  have R := hide (cells_new w 116 #[.int .i64 0, .string ⟨#[]⟩, .int .i64 0, .int .i64 0, .string ⟨#[]⟩, .string ⟨#[]⟩, .int .i64 0, .int .i64 0, .bool false, .bool false, .int .i64 0, .int .i64 0, .bool false, .bool false, .bool false, .int .i64 0])
  have HB : Hid (Below w.heap.size w (w.alloc (.cells #[.int .i64 0, .string ⟨#[]⟩, .int .i64 0, .int .i64 0, .string ⟨#[]⟩, .string ⟨#[]⟩, .int .i64 0, .int .i64 0, .bool false, .bool false, .int .i64 0, .int .i64 0, .bool false, .bool false, .bool false, .int .i64 0] 116))) := hide (below_al _ _)
  generalize hW : w.alloc (.cells #[.int .i64 0, .string ⟨#[]⟩, .int .i64 0, .int .i64 0, .string ⟨#[]⟩, .string ⟨#[]⟩, .int .i64 0, .int .i64 0, .bool false, .bool false, .int .i64 0, .int .i64 0, .bool false, .bool false, .bool false, .int .i64 0] 116) = W0 at R HB ⊢
  clear hW
  go_wp2_with fail
  refine (unhide HD _).mono ?_
  rintro e wk1 ⟨rfl, rfl⟩
  go_wp2_with fail
  refine (unhide HL _).mono ?_
  rintro e wk2 ⟨rfl, rfl⟩
  go_wp2_with fail
  refine (unhide HA1 _).mono ?_
  rintro e wk3 ⟨rfl, rfl⟩
  go_wp2_with fail
  refine (unhide HA2 _).mono ?_
  rintro e wk4 ⟨rfl, rfl⟩
  go_wp2_with fail
  refine (unhide HK _ ((unhide HE).below (unhide HB)).tw).mono ?_
  rintro e wk5 ⟨rfl, rfl⟩
  obtain ⟨r_0, r_1, r_2, r_3, r_4, r_5, r_6, r_7, r_8, r_9, r_10, r_11, r_12, r_13, r_14, r_15⟩ := cells16 (unhide R)
  obtain ⟨fz_0, fz_1, fz_2, fz_3, fz_4, fz_5, fz_6, fz_7, fz_8, fz_9, fz_10, fz_11, fz_12, fz_13, fz_14, fz_15⟩ := frz16 (unhide R)
  go_wp2
  refine bodyPost_ret (results_c1tt rfl _ _ _ _ _ _ rfl (cells_set16 (unhide R) _ _ _ _ _ _ _ _ _ _ _ _ _ _ _ _) Tryz.underlying116 rfl (by exact infoTk) _ rfl _ rfl) rfl ?_
  exact ⟨rfl, below_set16 (unhide HB) (Nat.le_refl _) _ _ _ _ _ _ _ _ _ _ _ _ _ _ _ _⟩
end Go.Proofs.YtloamahbghjjgaaGreatDoor

namespace Go.Proofs.YtloamahbghjjgaaGreatDoor
open Go.RowKit

set_option maxRecDepth 100000 in
set_option maxHeartbeats 4000000 in
theorem fs_open (s : ByteArray) (w : World) (h0 : 0 < s.size) (HD : Hid (∀ w : World, Calls Tryz.prog 88 #[.int .u8 (s[0].toNat : Int)] w fun e w' => e = .returned (.bool false) ∧ w' = w)) (HL : Hid (∀ w : World, Calls Tryz.prog 90 #[.int .u8 (s[0].toNat : Int)] w fun e w' => e = .returned (.bool false) ∧ w' = w)) (HA1 : Hid (∀ w : World, Calls Tryz.prog 91 #[.int .u8 (s[0].toNat : Int), .string ⟨#[95, 36, 91]⟩] w fun e w' => e = .returned (.bool false) ∧ w' = w)) (HA2 : Hid (∀ w : World, Calls Tryz.prog 91 #[.int .u8 (s[0].toNat : Int), .string ⟨#[43, 45, 42, 47, 94, 38, 61, 37, 60, 62]⟩] w fun e w' => e = .returned (.bool false) ∧ w' = w)) (hx : s.extract 0 1 = ⟨#[40]⟩) :
    Calls Tryz.prog 58 #[.string s] w fun e w' => e = .returned (.tuple #[.agg #[.int .i64 6, .string ⟨#[]⟩, .int .i64 0, .int .i64 0, .string ⟨#[]⟩, .string ⟨#[]⟩, .int .i64 0, .int .i64 0, .bool false, .bool false, .int .i64 0, .int .i64 0, .bool false, .bool false, .bool false, .int .i64 0], .int .i64 1, .int .i64 0]) ∧ Below w.heap.size w w' := by
  have h1i : (1 : Int) ≤ (s.size : Int) := by omega
  go_enter Tryz.func58, Tryz.ntmps58
  go_upto_region 1 with fail
  have R := hide (cells_new w 116 #[.int .i64 0, .string ⟨#[]⟩, .int .i64 0, .int .i64 0, .string ⟨#[]⟩, .string ⟨#[]⟩, .int .i64 0, .int .i64 0, .bool false, .bool false, .int .i64 0, .int .i64 0, .bool false, .bool false, .bool false, .int .i64 0])
  have HB : Hid (Below w.heap.size w (w.alloc (.cells #[.int .i64 0, .string ⟨#[]⟩, .int .i64 0, .int .i64 0, .string ⟨#[]⟩, .string ⟨#[]⟩, .int .i64 0, .int .i64 0, .bool false, .bool false, .int .i64 0, .int .i64 0, .bool false, .bool false, .bool false, .int .i64 0] 116))) := hide (below_al _ _)
  generalize hW : w.alloc (.cells #[.int .i64 0, .string ⟨#[]⟩, .int .i64 0, .int .i64 0, .string ⟨#[]⟩, .string ⟨#[]⟩, .int .i64 0, .int .i64 0, .bool false, .bool false, .int .i64 0, .int .i64 0, .bool false, .bool false, .bool false, .int .i64 0] 116) = W0 at R HB ⊢
  clear hW
  go_wp2_with fail
  refine (unhide HD _).mono ?_
  rintro e wk1 ⟨rfl, rfl⟩
  go_wp2_with fail
  refine (unhide HL _).mono ?_
  rintro e wk2 ⟨rfl, rfl⟩
  go_wp2_with fail
  refine (unhide HA1 _).mono ?_
  rintro e wk3 ⟨rfl, rfl⟩
  go_wp2_with fail
  refine (unhide HA2 _).mono ?_
  rintro e wk4 ⟨rfl, rfl⟩
  obtain ⟨r_0, r_1, r_2, r_3, r_4, r_5, r_6, r_7, r_8, r_9, r_10, r_11, r_12, r_13, r_14, r_15⟩ := cells16 (unhide R)
  obtain ⟨fz_0, fz_1, fz_2, fz_3, fz_4, fz_5, fz_6, fz_7, fz_8, fz_9, fz_10, fz_11, fz_12, fz_13, fz_14, fz_15⟩ := frz16 (unhide R)
  go_wp2
  refine bodyPost_ret (results_c1tt rfl _ _ _ _ _ _ rfl (cells_set16 (unhide R) _ _ _ _ _ _ _ _ _ _ _ _ _ _ _ _) Tryz.underlying116 rfl (by exact infoTk) _ rfl _ rfl) rfl ?_
  exact ⟨rfl, below_set16 (unhide HB) (Nat.le_refl _) _ _ _ _ _ _ _ _ _ _ _ _ _ _ _ _⟩
set_option maxRecDepth 100000 in
set_option maxHeartbeats 4000000 in
theorem fs_close (s : ByteArray) (w : World) (h0 : 0 < s.size) (HD : Hid (∀ w : World, Calls Tryz.prog 88 #[.int .u8 (s[0].toNat : Int)] w fun e w' => e = .returned (.bool false) ∧ w' = w)) (HL : Hid (∀ w : World, Calls Tryz.prog 90 #[.int .u8 (s[0].toNat : Int)] w fun e w' => e = .returned (.bool false) ∧ w' = w)) (HA1 : Hid (∀ w : World, Calls Tryz.prog 91 #[.int .u8 (s[0].toNat : Int), .string ⟨#[95, 36, 91]⟩] w fun e w' => e = .returned (.bool false) ∧ w' = w)) (HA2 : Hid (∀ w : World, Calls Tryz.prog 91 #[.int .u8 (s[0].toNat : Int), .string ⟨#[43, 45, 42, 47, 94, 38, 61, 37, 60, 62]⟩] w fun e w' => e = .returned (.bool false) ∧ w' = w)) (hx : s.extract 0 1 = ⟨#[41]⟩) :
    Calls Tryz.prog 58 #[.string s] w fun e w' => e = .returned (.tuple #[.agg #[.int .i64 7, .string ⟨#[]⟩, .int .i64 0, .int .i64 0, .string ⟨#[]⟩, .string ⟨#[]⟩, .int .i64 0, .int .i64 0, .bool false, .bool false, .int .i64 0, .int .i64 0, .bool false, .bool false, .bool false, .int .i64 0], .int .i64 1, .int .i64 0]) ∧ Below w.heap.size w w' := by
  have h1i : (1 : Int) ≤ (s.size : Int) := by omega
  go_enter Tryz.func58, Tryz.ntmps58
  go_upto_region 1 with fail
  have R := hide (cells_new w 116 #[.int .i64 0, .string ⟨#[]⟩, .int .i64 0, .int .i64 0, .string ⟨#[]⟩, .string ⟨#[]⟩, .int .i64 0, .int .i64 0, .bool false, .bool false, .int .i64 0, .int .i64 0, .bool false, .bool false, .bool false, .int .i64 0])
  have HB : Hid (Below w.heap.size w (w.alloc (.cells #[.int .i64 0, .string ⟨#[]⟩, .int .i64 0, .int .i64 0, .string ⟨#[]⟩, .string ⟨#[]⟩, .int .i64 0, .int .i64 0, .bool false, .bool false, .int .i64 0, .int .i64 0, .bool false, .bool false, .bool false, .int .i64 0] 116))) := hide (below_al _ _)
  generalize hW : w.alloc (.cells #[.int .i64 0, .string ⟨#[]⟩, .int .i64 0, .int .i64 0, .string ⟨#[]⟩, .string ⟨#[]⟩, .int .i64 0, .int .i64 0, .bool false, .bool false, .int .i64 0, .int .i64 0, .bool false, .bool false, .bool false, .int .i64 0] 116) = W0 at R HB ⊢
  clear hW
  go_wp2_with fail
  refine (unhide HD _).mono ?_
  rintro e wk1 ⟨rfl, rfl⟩
  go_wp2_with fail
  refine (unhide HL _).mono ?_
  rintro e wk2 ⟨rfl, rfl⟩
  go_wp2_with fail
  refine (unhide HA1 _).mono ?_
  rintro e wk3 ⟨rfl, rfl⟩
  go_wp2_with fail
  refine (unhide HA2 _).mono ?_
  rintro e wk4 ⟨rfl, rfl⟩
  obtain ⟨r_0, r_1, r_2, r_3, r_4, r_5, r_6, r_7, r_8, r_9, r_10, r_11, r_12, r_13, r_14, r_15⟩ := cells16 (unhide R)
  obtain ⟨fz_0, fz_1, fz_2, fz_3, fz_4, fz_5, fz_6, fz_7, fz_8, fz_9, fz_10, fz_11, fz_12, fz_13, fz_14, fz_15⟩ := frz16 (unhide R)
  go_wp2
  refine bodyPost_ret (results_c1tt rfl _ _ _ _ _ _ rfl (cells_set16 (unhide R) _ _ _ _ _ _ _ _ _ _ _ _ _ _ _ _) Tryz.underlying116 rfl (by exact infoTk) _ rfl _ rfl) rfl ?_
  exact ⟨rfl, below_set16 (unhide HB) (Nat.le_refl _) _ _ _ _ _ _ _ _ _ _ _ _ _ _ _ _⟩
set_option maxRecDepth 100000 in
set_option maxHeartbeats 4000000 in
theorem fs_comma (s : ByteArray) (w : World) (h0 : 0 < s.size) (HD : Hid (∀ w : World, Calls Tryz.prog 88 #[.int .u8 (s[0].toNat : Int)] w fun e w' => e = .returned (.bool false) ∧ w' = w)) (HL : Hid (∀ w : World, Calls Tryz.prog 90 #[.int .u8 (s[0].toNat : Int)] w fun e w' => e = .returned (.bool false) ∧ w' = w)) (HA1 : Hid (∀ w : World, Calls Tryz.prog 91 #[.int .u8 (s[0].toNat : Int), .string ⟨#[95, 36, 91]⟩] w fun e w' => e = .returned (.bool false) ∧ w' = w)) (HA2 : Hid (∀ w : World, Calls Tryz.prog 91 #[.int .u8 (s[0].toNat : Int), .string ⟨#[43, 45, 42, 47, 94, 38, 61, 37, 60, 62]⟩] w fun e w' => e = .returned (.bool false) ∧ w' = w)) (hx : s.extract 0 1 = ⟨#[44]⟩) :
    Calls Tryz.prog 58 #[.string s] w fun e w' => e = .returned (.tuple #[.agg #[.int .i64 8, .string ⟨#[]⟩, .int .i64 0, .int .i64 0, .string ⟨#[]⟩, .string ⟨#[]⟩, .int .i64 0, .int .i64 0, .bool false, .bool false, .int .i64 0, .int .i64 0, .bool false, .bool false, .bool false, .int .i64 0], .int .i64 1, .int .i64 0]) ∧ Below w.heap.size w w' := by
  have h1i : (1 : Int) ≤ (s.size : Int) := by omega
  go_enter Tryz.func58, Tryz.ntmps58
  go_upto_region 1 with fail
  have R := hide (cells_new w 116 #[.int .i64 0, .string ⟨#[]⟩, .int .i64 0, .int .i64 0, .string ⟨#[]⟩, .string ⟨#[]⟩, .int .i64 0, .int .i64 0, .bool false, .bool false, .int .i64 0, .int .i64 0, .bool false, .bool false, .bool false, .int .i64 0])
  have HB : Hid (Below w.heap.size w (w.alloc (.cells #[.int .i64 0, .string ⟨#[]⟩, .int .i64 0, .int .i64 0, .string ⟨#[]⟩, .string ⟨#[]⟩, .int .i64 0, .int .i64 0, .bool false, .bool false, .int .i64 0, .int .i64 0, .bool false, .bool false, .bool false, .int .i64 0] 116))) := hide (below_al _ _)
  generalize hW : w.alloc (.cells #[.int .i64 0, .string ⟨#[]⟩, .int .i64 0, .int .i64 0, .string ⟨#[]⟩, .string ⟨#[]⟩, .int .i64 0, .int .i64 0, .bool false, .bool false, .int .i64 0, .int .i64 0, .bool false, .bool false, .bool false, .int .i64 0] 116) = W0 at R HB ⊢
  clear hW
  go_wp2_with fail
  refine (unhide HD _).mono ?_
  rintro e wk1 ⟨rfl, rfl⟩
  go_wp2_with fail
  refine (unhide HL _).mono ?_
  rintro e wk2 ⟨rfl, rfl⟩
  go_wp2_with fail
  refine (unhide HA1 _).mono ?_
  rintro e wk3 ⟨rfl, rfl⟩
  go_wp2_with fail
  refine (unhide HA2 _).mono ?_
  rintro e wk4 ⟨rfl, rfl⟩
  obtain ⟨r_0, r_1, r_2, r_3, r_4, r_5, r_6, r_7, r_8, r_9, r_10, r_11, r_12, r_13, r_14, r_15⟩ := cells16 (unhide R)
  obtain ⟨fz_0, fz_1, fz_2, fz_3, fz_4, fz_5, fz_6, fz_7, fz_8, fz_9, fz_10, fz_11, fz_12, fz_13, fz_14, fz_15⟩ := frz16 (unhide R)
  go_wp2
  refine bodyPost_ret (results_c1tt rfl _ _ _ _ _ _ rfl (cells_set16 (unhide R) _ _ _ _ _ _ _ _ _ _ _ _ _ _ _ _) Tryz.underlying116 rfl (by exact infoTk) _ rfl _ rfl) rfl ?_
  exact ⟨rfl, below_set16 (unhide HB) (Nat.le_refl _) _ _ _ _ _ _ _ _ _ _ _ _ _ _ _ _⟩
set_option maxRecDepth 100000 in
set_option maxHeartbeats 4000000 in
theorem fs_none (s : ByteArray) (w : World) (h0 : 0 < s.size) (HD : Hid (∀ w : World, Calls Tryz.prog 88 #[.int .u8 (s[0].toNat : Int)] w fun e w' => e = .returned (.bool false) ∧ w' = w)) (HL : Hid (∀ w : World, Calls Tryz.prog 90 #[.int .u8 (s[0].toNat : Int)] w fun e w' => e = .returned (.bool false) ∧ w' = w)) (HA1 : Hid (∀ w : World, Calls Tryz.prog 91 #[.int .u8 (s[0].toNat : Int), .string ⟨#[95, 36, 91]⟩] w fun e w' => e = .returned (.bool false) ∧ w' = w)) (HA2 : Hid (∀ w : World, Calls Tryz.prog 91 #[.int .u8 (s[0].toNat : Int), .string ⟨#[43, 45, 42, 47, 94, 38, 61, 37, 60, 62]⟩] w fun e w' => e = .returned (.bool false) ∧ w' = w)) (cb : ByteArray) (hx : s.extract 0 1 = cb) (n1 : (cb.toList == [34]) = false) (n2 : (cb.toList == [35]) = false) (n3 : (cb.toList == [40]) = false) (n4 : (cb.toList == [41]) = false) (n5 : (cb.toList == [44]) = false) :
    Calls Tryz.prog 58 #[.string s] w fun e w' => e = .returned (.tuple #[.agg #[.int .i64 0, .string ⟨#[]⟩, .int .i64 0, .int .i64 0, .string ⟨#[]⟩, .string ⟨#[]⟩, .int .i64 0, .int .i64 0, .bool false, .bool false, .int .i64 0, .int .i64 0, .bool false, .bool false, .bool false, .int .i64 0], .int .i64 0, .int .i64 4]) ∧ Below w.heap.size w w' := by
  have h1i : (1 : Int) ≤ (s.size : Int) := by omega
  go_enter Tryz.func58, Tryz.ntmps58
  go_upto_region 1 with fail
  have R := hide (cells_new w 116 #[.int .i64 0, .string ⟨#[]⟩, .int .i64 0, .int .i64 0, .string ⟨#[]⟩, .string ⟨#[]⟩, .int .i64 0, .int .i64 0, .bool false, .bool false, .int .i64 0, .int .i64 0, .bool false, .bool false, .bool false, .int .i64 0])
  have HB : Hid (Below w.heap.size w (w.alloc (.cells #[.int .i64 0, .string ⟨#[]⟩, .int .i64 0, .int .i64 0, .string ⟨#[]⟩, .string ⟨#[]⟩, .int .i64 0, .int .i64 0, .bool false, .bool false, .int .i64 0, .int .i64 0, .bool false, .bool false, .bool false, .int .i64 0] 116))) := hide (below_al _ _)
  generalize hW : w.alloc (.cells #[.int .i64 0, .string ⟨#[]⟩, .int .i64 0, .int .i64 0, .string ⟨#[]⟩, .string ⟨#[]⟩, .int .i64 0, .int .i64 0, .bool false, .bool false, .int .i64 0, .int .i64 0, .bool false, .bool false, .bool false, .int .i64 0] 116) = W0 at R HB ⊢
  clear hW
  go_wp2_with fail
  refine (unhide HD _).mono ?_
  rintro e wk1 ⟨rfl, rfl⟩
  go_wp2_with fail
  refine (unhide HL _).mono ?_
  rintro e wk2 ⟨rfl, rfl⟩
  go_wp2_with fail
  refine (unhide HA1 _).mono ?_
  rintro e wk3 ⟨rfl, rfl⟩
  go_wp2_with fail
  refine (unhide HA2 _).mono ?_
  rintro e wk4 ⟨rfl, rfl⟩
  obtain ⟨r_0, r_1, r_2, r_3, r_4, r_5, r_6, r_7, r_8, r_9, r_10, r_11, r_12, r_13, r_14, r_15⟩ := cells16 (unhide R)
  obtain ⟨fz_0, fz_1, fz_2, fz_3, fz_4, fz_5, fz_6, fz_7, fz_8, fz_9, fz_10, fz_11, fz_12, fz_13, fz_14, fz_15⟩ := frz16 (unhide R)
  go_wp2
  refine bodyPost_ret (results_c1tt rfl _ _ _ _ _ _ rfl (cells_set16 (unhide R) _ _ _ _ _ _ _ _ _ _ _ _ _ _ _ _) Tryz.underlying116 rfl (by exact infoTk) _ rfl _ rfl) rfl ?_
  exact ⟨rfl, below_set16 (unhide HB) (Nat.le_refl _) _ _ _ _ _ _ _ _ _ _ _ _ _ _ _ _⟩
end Go.Proofs.YtloamahbghjjgaaGreatDoor

namespace Go.Proofs.YtloamahbghjjgaaGreatDoor
open Go.RowKit

theorem one_list (c : UInt8) : (⟨#[c]⟩ : ByteArray).toList = [c] := by
  rw [ByteArray.toList_eq]
theorem one_ne (c k : UInt8) (h : c ≠ k) : ((⟨#[c]⟩ : ByteArray).toList == [k]) = false := by
  rw [one_list]
  simp [h]
theorem head_s (s : ByteArray) (h : 0 < s.size) : s.data.toList = s[0] :: s.data.toList.tail := by
  have h' : 0 < s.data.toList.length := h
  have e := List.drop_eq_getElem_cons h'
  rw [List.drop_zero, Nat.zero_add, tail_drop] at e
  exact e
theorem first5_val (s : ByteArray) (w : World) (hs : s.size ≤ 1000) (h0 : 0 < s.size) (he : Env5 w) :
    Calls Tryz.prog 58 #[.string s] w fun e w' => e = .returned (.tuple #[.agg (tok1 s.data.toList).1.cells, .int .i64 (tok1 s.data.toList).2.1, .int .i64 (tok1 s.data.toList).2.2]) ∧ Below w.heap.size w w' := by
  have HE := hide he
  have HD := hide (fun w => digit5_val s[0] w)
  have HL := hide (fun w => letter5_val s[0] w)
  have HA1 := hide (fun w => among_val s[0] ⟨#[95, 36, 91]⟩ w)
  have HA2 := hide (fun w => among_val s[0] ⟨#[43, 45, 42, 47, 94, 38, 61, 37, 60, 62]⟩ w)
  rw [show (⟨#[95, 36, 91]⟩ : ByteArray).data.toList = headL from rfl] at HA1
  rw [show (⟨#[43, 45, 42, 47, 94, 38, 61, 37, 60, 62]⟩ : ByteArray).data.toList.contains s[0] = opC s[0] from rfl] at HA2
  have hh := head_s s h0
  have hx : s.extract 0 1 = ⟨#[s[0]]⟩ := by
    rw [ext_take, hh]; rfl
  have hd : s.data.toList.headD 0 = s[0] := by rw [hh]; rfl
  have E : ∀ c, s.data.toList.headD 0 = c → tok1 s.data.toList = (if isDg c = true then numTok s.data.toList else if headC c = true then nameTok s.data.toList else if opC c = true then opTok s.data.toList else if c = 34 then textTok s.data.toList else if c = 35 then failTok s.data.toList else if c = 40 then sgnT 6 else if c = 41 then sgnT 7 else if c = 44 then sgnT 8 else badT 4) := by
    rintro c rfl; rfl
  have E := E _ hd
  clear hd hh
  cases q1 : isDg s[0]
  · rw [q1, if_neg (by decide)] at E
    rw [q1] at HD
    clear q1
    cases q2 : isLet s[0]
    · rw [q2] at HL
      cases q3 : headL.contains s[0]
      · rw [show headC s[0] = false by unfold headC; rw [q2, q3]; rfl, if_neg (by decide)] at E
        rw [q3] at HA1
        clear q2 q3
        cases q4 : opC s[0]
        · rw [q4, if_neg (by decide)] at E
          rw [q4] at HA2
          clear q4
          generalize hc : s[0] = c at hx E
          by_cases k34 : c = 34
          · rw [if_pos k34] at E
            rw [k34] at hx
            rw [E]
            exact fs_text s w _ _ _ h0 HE (hide (tk_row _)) HD HL HA1 HA2 hx (hide (fun w he => text5_val s w hs (by omega) he))
          rw [if_neg k34] at E
          by_cases k35 : c = 35
          · rw [if_pos k35] at E
            rw [k35] at hx
            rw [E]
            exact fs_fail s w _ _ _ h0 HE (hide (tk_row _)) HD HL HA1 HA2 hx (hide (fun w he => fail5_val s w he))
          rw [if_neg k35] at E
          by_cases k40 : c = 40
          · rw [if_pos k40] at E
            rw [k40] at hx
            rw [E]
            exact fs_open s w h0 HD HL HA1 HA2 hx
          rw [if_neg k40] at E
          by_cases k41 : c = 41
          · rw [if_pos k41] at E
            rw [k41] at hx
            rw [E]
            exact fs_close s w h0 HD HL HA1 HA2 hx
          rw [if_neg k41] at E
          by_cases k44 : c = 44
          · rw [if_pos k44] at E
            rw [k44] at hx
            rw [E]
            exact fs_comma s w h0 HD HL HA1 HA2 hx
          rw [if_neg k44] at E
          rw [E]
          exact fs_none s w h0 HD HL HA1 HA2 _ hx (one_ne _ _ k34) (one_ne _ _ k35) (one_ne _ _ k40) (one_ne _ _ k41) (one_ne _ _ k44)
        · rw [q4, if_pos rfl] at E
          rw [q4] at HA2
          rw [E]
          have k := fs_op s ⟨(s.data.toList.take (opN s.data.toList)).toArray⟩ w h0 HE HD HL HA1 HA2 (hide (fun w ht => operator_val s w (by omega) ht))
          have hn : opN s.data.toList ≤ s.data.toList.length := by
            rw [head_s s h0]
            unfold opN
            cases s.data.toList.tail with
            | nil => simp [twoB]
            | cons d l => split <;> simp
          have hz : (((⟨(s.data.toList.take (opN s.data.toList)).toArray⟩ : ByteArray).size : Nat) : Int) = ((opN s.data.toList : Nat) : Int) := by
            show (((s.data.toList.take (opN s.data.toList)).length : Nat) : Int) = _
            rw [List.length_take, Nat.min_eq_left hn]
          rw [hz] at k
          exact k
      · rw [show headC s[0] = true by unfold headC; rw [q2, q3]; rfl, if_pos rfl] at E
        rw [q3] at HA1
        rw [E]
        exact fs_head s w _ _ _ h0 HE (hide (tk_row _)) HD HL HA1 (hide (fun w he => named5_val s w hs he))
    · rw [show headC s[0] = true by unfold headC; rw [q2]; rfl, if_pos rfl] at E
      rw [q2] at HL
      rw [E]
      exact fs_let s w _ _ _ h0 HE (hide (tk_row _)) HD HL (hide (fun w he => named5_val s w hs he))
  · rw [q1, if_pos rfl] at E
    rw [q1] at HD
    rw [E]
    exact fs_num s w _ _ _ h0 HE (hide (tk_row _)) HD (hide (fun w he => number5_val s w hs he))
end Go.Proofs.YtloamahbghjjgaaGreatDoor

namespace Go.Proofs.YtloamahbghjjgaaGreatDoor
open Go.RowKit

theorem infoTok : (Tryz.prog.info? 116).map (fun i => (i.zero, i.size, i.bytes)) = some (some (.agg #[.int .i64 0, .string ⟨#[]⟩, .int .i64 0, .int .i64 0, .string ⟨#[]⟩, .string ⟨#[]⟩, .int .i64 0, .int .i64 0, .bool false, .bool false, .int .i64 0, .int .i64 0, .bool false, .bool false, .bool false, .int .i64 0]), 16, 136) := by kernel_rfl
theorem tok_parts {P : Program} {t : TypeId} {z : Value} (h : (P.info? t).map (fun i => (i.zero, i.size, i.bytes)) = some (some z, 16, 136)) : ∃ i, P.info? t = some i ∧ i.zero = some z ∧ i.size = 16 ∧ i.bytes = 136 := by
  cases hi : P.info? t with
  | none => rw [hi] at h; cases h
  | some i =>
    rw [hi] at h
    simp only [Option.map_some, Option.some.injEq, Prod.mk.injEq] at h
    exact ⟨i, rfl, h.1, h.2.1, h.2.2⟩
def flatT (ts : List Tk) : List Value := ts.flatMap (fun t => t.cells.toList)
theorem flat_snoc (ts : List Tk) (t : Tk) : flatT (ts ++ [t]) = flatT ts ++ t.cells.toList := by
  unfold flatT; simp
def TokRow (T : TypeId) (w : World) (B : Nat) (v : Value) (ts : List Tk) : Prop := w.ownsRow B T 16 v ts.length (flatT ts)
theorem tok_step {T : TypeId} {B : Nat} {w wr w1 : World} {v v' : Value} {ts : List Tk} {t : Tk} {o : Obj} (hb : Below B w wr) (hB : B ≤ wr.heap.size) (hown : TokRow T wr B v ts)
    (hown' : w1.ownsRow B T 16 v' (ts.length + 1) (flatT ts ++ t.cells.toList)) (hgrow : (wr.alloc o).grownBy w1 v.ownBlock) :
    TokRow T w1 B v' (ts ++ [t]) ∧ Below B w w1 := by
  refine ⟨?_, (hb.alloc hB o).grown hgrow (by simp; omega) ?_⟩
  · unfold TokRow
    rw [flat_snoc, List.length_append, List.length_singleton]
    exact hown'
  · intro j hj
    rcases hown.2 with ⟨rfl, _⟩ | ⟨g, cap, cur, rfl, hg, _⟩
    · cases hj
    · simp [Value.ownBlock] at hj; omega
theorem tokrow_below {T : TypeId} {B : Nat} {w w' : World} {v : Value} {ts : List Tk} (h : TokRow T w B v ts) (hb : Below w.heap.size w w') : TokRow T w' B v ts := by
  unfold TokRow World.ownsRow at h ⊢
  refine ⟨h.1, ?_⟩
  rcases h.2 with h | ⟨g, cap, cur, h1, h2, h3, h4⟩
  · exact Or.inl h
  · refine Or.inr ⟨g, cap, cur, h1, h2, ?_, h4⟩
    have hlt : g < w.heap.size := by
      rcases Nat.lt_or_ge g w.heap.size with h | h
      · exact h
      · rw [Array.getElem?_eq_none h] at h3; cases h3
    rw [hb.block g hlt]; exact h3
theorem results_t3 {P : Program} {fn : Func} {a b c : Tmp} (h : fn.results = #[.tmp a, .tmp b, .tmp c]) (tmps : Array Value) (w : World)
    (x : Value) (hx : tmps.getD a undef = x) (y : Value) (hy : tmps.getD b undef = y) (z : Value) (hz : tmps.getD c undef = z) :
    (results fn tmps).run P w = .ok (.tuple #[x, y, z]) w := by
  have hx' : tmps[a]?.getD undef = x := by simpa using hx
  have hy' : tmps[b]?.getD undef = y := by simpa using hy
  have hz' : tmps[c]?.getD undef = z := by simpa using hz
  simp [results, h, hx', hy', hz']
def strLen : Value → Nat
  | .string b => b.size
  | _ => 0
def LexPost (T : TypeId) (X : Lx) (w : World) (e : Ending) (w' : World) : Prop :=
  ∃ v, e = .returned (.tuple #[v, .int .i64 (X.2.1 : Nat), .int .i64 X.2.2]) ∧ TokRow T w' w.heap.size v X.1 ∧ Below w.heap.size w w'
structure LexAt (l : List UInt8) (o : Nat) (r : List UInt8) (ts : List Tk) : Prop where
  rest : r = l.drop o
  le : o ≤ l.length
  all : lexL 0 l = preT ts (lexL o r)
  cnt : ts.length ≤ o
theorem unbl_drop (l : List UInt8) : ∃ k, k ≤ l.length ∧ unbl l = l.drop k ∧ (∀ o, lexL o l = lexL (o + k) (l.drop k)) := by
  induction l with
  | nil => exact ⟨0, Nat.le_refl _, rfl, fun o => rfl⟩
  | cons c l ih =>
    by_cases hc : c = 32
    · subst hc
      obtain ⟨k, k1, k2, k3⟩ := ih
      refine ⟨k + 1, by simpa using k1, k2, fun o => ?_⟩
      rw [lexL_blank, k3 (o + 1), List.drop_succ_cons, show o + 1 + k = o + (k + 1) by omega]
    · refine ⟨0, Nat.zero_le _, ?_, fun o => rfl⟩
      unfold unbl
      rw [List.dropWhile_cons, if_neg (by simpa [isBl] using hc)]; rfl
theorem unbl_head (l : List UInt8) (c : UInt8) (m : List UInt8) (h : unbl l = c :: m) : c ≠ 32 := by
  induction l with
  | nil => cases h
  | cons d l ih =>
    unfold unbl at h ih
    rw [List.dropWhile_cons] at h
    by_cases hd : isBl d = true
    · rw [if_pos hd] at h; exact ih h
    · rw [if_neg hd] at h
      cases h
      simpa [isBl] using hd
theorem unbl_len (l : List UInt8) : (unbl l).length ≤ l.length := by
  obtain ⟨k, k1, k2, _⟩ := unbl_drop l
  rw [k2, List.length_drop]; omega
theorem LexAt.first (l : List UInt8) : ∃ o, LexAt l o (unbl l) [] := by
  obtain ⟨k, k1, k2, k3⟩ := unbl_drop l
  refine ⟨k, k2, k1, ?_, Nat.zero_le _⟩
  rw [k3 0, preT_nil _ (lexL_err _ _), k2, Nat.zero_add]
theorem LexAt.next {l : List UInt8} {o : Nat} {c : UInt8} {m : List UInt8} {ts : List Tk} (h : LexAt l o (c :: m) ts) (hc : c ≠ 32) (h0 : (tok1 (c :: m)).2.2 = 0) :
    ∃ o', LexAt l o' (unbl ((c :: m).drop (tok1 (c :: m)).2.1)) (ts ++ [(tok1 (c :: m)).1.put o]) := by
  obtain ⟨n1, n2⟩ := tok1_len c m h0
  obtain ⟨k, k1, k2, k3⟩ := unbl_drop ((c :: m).drop (tok1 (c :: m)).2.1)
  have hlen : (c :: m).length = l.length - o := by rw [h.rest, List.length_drop]
  rw [List.length_drop] at k1
  refine ⟨o + (tok1 (c :: m)).2.1 + k, ?_, ?_, ?_, ?_⟩
  · rw [k2, h.rest, List.drop_drop, List.drop_drop, Nat.add_assoc]
  · have := h.le; simp only [List.length_cons] at hlen k1; omega
  · rw [h.all, lexL_ok o c m hc h0, preT_pre, k3, k2]
  · have := h.cnt; rw [List.length_append, List.length_singleton]; omega
theorem LexAt.bad {l : List UInt8} {o : Nat} {c : UInt8} {m : List UInt8} {ts : List Tk} (h : LexAt l o (c :: m) ts) (hc : c ≠ 32) (h0 : (tok1 (c :: m)).2.2 ≠ 0) : lexL 0 l = ([], o, (tok1 (c :: m)).2.2) := by
  rw [h.all, lexL_bad o c m hc h0]
  unfold preT
  rw [if_neg h0]
theorem LexAt.last {l : List UInt8} {o : Nat} {ts : List Tk} (h : LexAt l o [] ts) : lexL 0 l = (ts, 0, 0) := by
  rw [h.all, lexL_nil, pre_lex, List.append_nil]
set_option maxRecDepth 100000 in
set_option maxHeartbeats 4000000 in
theorem lex5_val (s : ByteArray) (w : World) (hs : s.size ≤ 1000) (he : Env5 w) :
    Calls Tryz.prog 32 #[.string s] w fun e w' => LexPost 116 (lexT s.data.toList) w e w' := by
  obtain ⟨i0, hi, hz0, hz1, hz2⟩ := tok_parts infoTok
  have HE := hide he
  clear he
  by_cases h5 : 512 < s.size
  · have E : lexT s.data.toList = ([], 0, 7) := by unfold lexT; rw [if_pos (by exact h5)]
    rw [E]
    have h5i : 512 < (s.size : Int) := by omega
    clear E h5
    go_enter Tryz.func32, Tryz.ntmps32
    go_wp2
    refine bodyPost_ret (results_t3 rfl _ _ _ rfl _ rfl _ rfl) rfl ?_
    exact ⟨_, rfl, World.ownsRow_nil _ _ _ _, Below.refl _ _⟩
  have h5i : (s.size : Int) ≤ 512 := by omega
  have h5j : ¬ 512 < (s.size : Int) := by omega
  have E : lexT s.data.toList = lexL 0 s.data.toList := by unfold lexT; rw [if_neg (by exact h5)]
  rw [E]
  clear E
  have HU := hide (fun (b : ByteArray) w => unblanked_val b w)
  have HFI := hide (fun (b : ByteArray) w h1 h2 h3 => first5_val b w h1 h2 h3)
  obtain ⟨l, hl⟩ : ∃ l, s.data.toList = l := ⟨_, rfl⟩
  have hll : l.length = s.size := by rw [← hl]; rfl
  have HL := hide hll
  clear hll
  rw [hl]
  go_enter Tryz.func32, Tryz.ntmps32
  go_wp2_with fail
  refine (unhide HU s _).mono ?_
  rintro e w ⟨rfl, rfl⟩
  rw [hl]
  obtain ⟨o0, HA0⟩ := LexAt.first l
  go_wp2_with fail
  go_loopw [5, 6] (fun v r wr => ∃ (o : Nat) (rb : ByteArray) (ts : List Tk), r = .string rb ∧ Hid (LexAt l o rb.data.toList ts) ∧ Hid (∀ c m, rb.data.toList = c :: m → c ≠ 32) ∧ Hid (TokRow 116 wr w.heap.size v ts) ∧ Hid (Below w.heap.size w wr)) (fun _ r _ => strLen r)
  case atStart => exact ⟨o0, ⟨(unbl l).toArray⟩, [], rfl, hide HA0, hide (fun c m e => unbl_head l c m e), hide (World.ownsRow_nil _ _ _ _), hide (Below.refl _ _)⟩
  case round =>
    obtain ⟨o, rb, ts, rfl, HA, HN, HT, HB⟩ := hrel
    have hlen : rb.size + o = s.size := by
      have h1 := (unhide HA).rest
      have h2 := (unhide HA).le
      have h3 := congrArg List.length h1
      rw [List.length_drop, unhide HL] at h3
      have h4 : rb.data.toList.length = rb.size := rfl
      rw [unhide HL] at h2
      omega
    by_cases hr : rb.size = 0
    · have hnil : rb.data.toList = [] := List.eq_nil_of_length_eq_zero hr
      have HR : Hid (lexL 0 l = (ts, 0, 0)) := hide (by have := unhide HA; rw [hnil] at this; exact this.last)
      have hb0 : (rb.toList == []) = true := by rw [ByteArray.toList_eq, hnil]; rfl
      go_wp2
      refine bodyPost_ret (results_t3 rfl _ _ _ rfl _ rfl _ rfl) rfl ?_
      unfold LexPost
      rw [unhide HR]
      exact ⟨_, rfl, unhide HT, unhide HB⟩
    · have hb0 : (rb.toList == []) = false := by
        rw [ByteArray.toList_eq]
        cases h : rb.data.toList with
        | nil =>
          have : rb.data.toList.length = 0 := by rw [h]; rfl
          exact absurd this hr
        | cons c m => rfl
      have hpos : 0 < rb.size := by omega
      have HFI1 := hide (unhide HFI rb _ (by omega) hpos ((unhide HE).below (unhide HB)))
      obtain ⟨c, m, hcm⟩ : ∃ c m, rb.data.toList = c :: m := by
        cases h : rb.data.toList with
        | nil =>
          have : rb.data.toList.length = 0 := by rw [h]; rfl
          exact absurd this hr
        | cons c m => exact ⟨c, m, rfl⟩
      have HC := hide (unhide HN c m hcm)
      rw [hcm] at HFI1 HA
      obtain ⟨T, n, x, hT⟩ : ∃ T n x, tok1 (c :: m) = (T, n, x) := ⟨_, _, _, rfl⟩
      have HX := hide (unhide HA)
      have hT1 := hide (show (tok1 (c :: m)).1 = T by rw [hT])
      have hT2 := hide (show (tok1 (c :: m)).2.1 = n by rw [hT])
      have hT3 := hide (show (tok1 (c :: m)).2.2 = x by rw [hT])
      have hCM := hide hcm
      rw [hT] at HFI1
      clear hT hcm HN
      simp only [] at HFI1
      obtain ⟨kd, tx, nm, fl, ⟨bk, sh, ⟨c1, r1, f1, g1⟩, ⟨c2, r2, f2, g2⟩, wd⟩, pl⟩ := T
      unfold Tk.cells at HFI1
      simp only [] at HFI1
      go_wp2_with fail
      refine (unhide HFI1).mono ?_
      rintro e wk ⟨rfl, bk1⟩
      have HT1 := hide (tokrow_below (unhide HT) bk1)
      have HB1 := hide (below_nx (unhide HB) bk1)
      clear bk1 HT HB HFI1
      have hwr : IntKind.i64.wrap ((s.size : Int) - (rb.size : Int)) = (o : Int) := (IntWalk.i64_in _ (by omega)).trans (by omega)
      go_upto_region 8 with fail
      have V := hide (cells_new wk 116 #[.int .i64 kd, .string tx, .int .i64 nm, .int .i64 fl, .string bk, .string sh, .int .i64 c1, .int .i64 r1, .bool f1, .bool g1, .int .i64 c2, .int .i64 r2, .bool f2, .bool g2, .bool wd, .int .i64 (o : Int)])
      replace HT1 := hide (tokrow_below (unhide HT1) (below_al wk (.cells #[.int .i64 kd, .string tx, .int .i64 nm, .int .i64 fl, .string bk, .string sh, .int .i64 c1, .int .i64 r1, .bool f1, .bool g1, .int .i64 c2, .int .i64 r2, .bool f2, .bool g2, .bool wd, .int .i64 (o : Int)] 116)))
      replace HB1 := hide (below_nx (unhide HB1) (below_al wk (.cells #[.int .i64 kd, .string tx, .int .i64 nm, .int .i64 fl, .string bk, .string sh, .int .i64 c1, .int .i64 r1, .bool f1, .bool g1, .int .i64 c2, .int .i64 r2, .bool f2, .bool g2, .bool wd, .int .i64 (o : Int)] 116)))
      generalize hW : wk.alloc (.cells #[.int .i64 kd, .string tx, .int .i64 nm, .int .i64 fl, .string bk, .string sh, .int .i64 c1, .int .i64 r1, .bool f1, .bool g1, .int .i64 c2, .int .i64 r2, .bool f2, .bool g2, .bool wd, .int .i64 (o : Int)] 116) = W1 at V HT1 HB1 ⊢
      clear hW
      obtain ⟨v_0, v_1, v_2, v_3, v_4, v_5, v_6, v_7, v_8, v_9, v_10, v_11, v_12, v_13, v_14, v_15⟩ := cells16 (unhide V)
      by_cases hx0 : x = 0
      · subst hx0
        obtain ⟨n1, n2⟩ := tok1_len c m (unhide hT3)
        obtain ⟨o', HA'⟩ := (unhide HA).next (unhide HC) (unhide hT3)
        rw [unhide hT2] at n1 n2 HA'
        rw [unhide hT1] at HA'
        have HAN := hide HA'
        have hml : rb.size = m.length + 1 := by
          have : rb.data.toList.length = rb.size := rfl
          rw [unhide hCM] at this
          simp only [List.length_cons] at this
          omega
        have hex : (rb.extract n rb.size).data.toList = (c :: m).drop n := by rw [ext_drop, unhide hCM]
        have hcnt := (unhide HA).cnt
        have i1 : (0 : Int) ≤ (n : Int) := by omega
        have i2 : (n : Int) ≤ (rb.size : Int) := by omega
        have HU1 := hide (unhide HU (rb.extract n rb.size))
        rw [hex] at HU1
        have HNX := hide (fun c' m' e => unbl_head ((c :: m).drop n) c' m' e)
        have HM : Hid ((unbl ((c :: m).drop n)).length < rb.size) := hide (by
          have := unbl_len ((c :: m).drop n)
          rw [List.length_drop, List.length_cons] at this
          omega)
        clear HA' HA hT1 hT2 hT3 hCM hex HX hml n1 n2
        go_wp2_with (first
          | (at_builtin; refine wpList_append_own _ rfl _ _ 77 rfl w.heap.size 116 i0 (.agg #[.int .i64 0, .string ⟨#[]⟩, .int .i64 0, .int .i64 0, .string ⟨#[]⟩, .string ⟨#[]⟩, .int .i64 0, .int .i64 0, .bool false, .bool false, .int .i64 0, .int .i64 0, .bool false, .bool false, .bool false, .int .i64 0]) 16 136 Tryz.underlying77 hi hz0 hz1 hz2 rfl (by decide) _ _ _ rfl ((unhide HT1).alloc _) ⟨W1.heap.size, 0, none⟩ 1 1 [.int .i64 kd, .string tx, .int .i64 nm, .int .i64 fl, .string bk, .string sh, .int .i64 c1, .int .i64 r1, .bool f1, .bool g1, .int .i64 c2, .int .i64 r2, .bool f2, .bool g2, .bool wd, .int .i64 (o : Int)] rfl rfl (World.news_of_block (heap_alloc_new _ _)) (by simp [Value.oneCell']) (by unfold maxLen; omega) (by omega) (by have := (unhide HB1).size; simp; omega) ?_)
          | go_in)
        intro v' w1 hown' hgrow _
        have hB := (unhide HB1).size
        have R := hide (tok_step (t := ⟨kd, tx, nm, fl, ⟨bk, sh, ⟨c1, r1, f1, g1⟩, ⟨c2, r2, f2, g2⟩, wd⟩, (o : Int)⟩) (unhide HB1) hB (unhide HT1) hown' hgrow)
        clear hown' hgrow V v_0 v_1 v_2 v_3 v_4 v_5 v_6 v_7 v_8 v_9 v_10 v_11 v_12 v_13 v_14 v_15
        go_wp2_with fail
        refine (unhide HU1 _).mono ?_
        rintro e w2 ⟨rfl, rfl⟩
        go_wp2
        go_roundw
        case rel => exact ⟨o', _, _, rfl, HAN, HNX, hide (unhide R).1, hide (unhide R).2⟩
        case measure => exact unhide HM
      · have HR : Hid (lexL 0 l = ([], o, x)) := hide (by
          have := (unhide HA).bad (unhide HC) (by rw [unhide hT3]; exact hx0)
          rw [unhide hT3] at this
          exact this)
        go_wp2_with fail
        go_quiet (fail)
        go_wp2
        refine bodyPost_ret (results_t3 rfl _ _ _ rfl _ rfl _ rfl) rfl ?_
        unfold LexPost
        rw [unhide HR]
        exact ⟨_, rfl, World.ownsRow_nil _ _ _ _, below_drewN (unhide HB1) _⟩
end Go.Proofs.YtloamahbghjjgaaGreatDoor

namespace Go.Proofs.YtloamahbghjjgaaGreatDoor
open Go.RowKit

def ToksIn (w : World) (a : Option Addr) (ts : List Tk) : Prop :=
  ts = [] ∨ ∃ g off, a = some ⟨g, off, none⟩ ∧ g < w.heap.size ∧ ∀ (i : Nat) (t : Tk), ts[i]? = some t → ∀ (j : Nat) (u : Value), t.cells[j]? = some u → w.cell? ⟨g, off + i * 16 + j, none⟩ = some u
theorem flat_get : ∀ (ts : List Tk) (i : Nat) (t : Tk), ts[i]? = some t → ∀ (j : Nat) (u : Value), t.cells[j]? = some u → (flatT ts)[i * 16 + j]? = some u
  | [], i, t, h, _, _, _ => by simp at h
  | x :: ts, 0, t, h, j, u, hu => by
    simp only [List.getElem?_cons_zero, Option.some.injEq] at h
    subst h
    unfold flatT
    rw [List.flatMap_cons, Nat.zero_mul, Nat.zero_add]
    obtain ⟨hlt, _⟩ := Array.getElem?_eq_some_iff.1 hu
    rw [List.getElem?_append_left (by simpa using hlt)]
    simpa using hu
  | x :: ts, i + 1, t, h, j, u, hu => by
    rw [List.getElem?_cons_succ] at h
    have ih := flat_get ts i t h j u hu
    unfold flatT at ih ⊢
    have hx : x.cells.toList.length = 16 := rfl
    rw [List.flatMap_cons, List.getElem?_append_right (by rw [hx]; omega), hx, show (i + 1) * 16 + j - 16 = i * 16 + j by omega]
    exact ih
theorem toks_of_row {T : TypeId} {w : World} {B : Nat} {v : Value} {ts : List Tk} (h : TokRow T w B v ts) : ∃ a cap, v = .slice a ts.length cap ∧ ts.length ≤ cap ∧ ToksIn w a ts := by
  rcases h.2 with ⟨rfl, h0⟩ | ⟨g, cap, cur, rfl, hg, hh, hc, _, hs, ht⟩
  · refine ⟨none, 0, by rw [h0], by omega, Or.inl (List.eq_nil_of_length_eq_zero h0)⟩
  · refine ⟨_, cap, rfl, hc, Or.inr ⟨g, 0, rfl, ?_, ?_⟩⟩
    · rcases Nat.lt_or_ge g w.heap.size with h | h
      · exact h
      · rw [Array.getElem?_eq_none h] at hh; cases hh
    · intro i t hi j u hu
      have h1 := flat_get ts i t hi j u hu
      rw [← ht] at h1
      rw [cell_of_row w g _ cur T (0, 0) hh, Nat.zero_add]
      rw [List.getElem?_take] at h1
      split at h1
      · simpa using h1
      · cases h1
theorem toks_below {w w' : World} {a : Option Addr} {ts : List Tk} (h : ToksIn w a ts) (hb : Below w.heap.size w w') : ToksIn w' a ts := by
  rcases h with h | ⟨g, off, rfl, hg, hc⟩
  · exact Or.inl h
  · refine Or.inr ⟨g, off, rfl, Nat.lt_of_lt_of_le hg hb.size, fun i t hi j u hu => ?_⟩
    rw [hb.cell (p := ⟨g, off + i * 16 + j, none⟩) hg]
    exact hc i t hi j u hu
end Go.Proofs.YtloamahbghjjgaaGreatDoor
