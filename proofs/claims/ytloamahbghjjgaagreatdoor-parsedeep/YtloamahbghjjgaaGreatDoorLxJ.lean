/- The contract of named. -/
import Derived.Test.YtloamahbghjjgaaGreatDoorLxH
import Derived.Test.YtloamahbghjjgaaGreatDoorLxI
namespace Go.Proofs.YtloamahbghjjgaaGreatDoor
open Go.RowKit

theorem named5_val (s : ByteArray) (w : World) (hs : s.size ≤ 1000) (he : Env5 w) :
    Calls Tryz.prog 92 #[.string s] w fun e w' => e = .returned (.tuple #[.agg (nameTok s.data.toList).1.cells, .int .i64 (nameTok s.data.toList).2.1, .int .i64 (nameTok s.data.toList).2.2]) ∧ Below w.heap.size w w' := by
  obtain ⟨l, hl⟩ : ∃ l, s.data.toList = l := ⟨_, rfl⟩
  rw [hl]
  obtain ⟨rb, hrb⟩ : ∃ rb : ByteArray, rb = ⟨(runR l).toArray⟩ := ⟨_, rfl⟩
  have hz : ((rb.size : Nat) : Int) = (((runR l).length : Nat) : Int) := by rw [hrb]; rfl
  have hle := tk_len inRunC s.data.toList
  rw [hl] at hle
  have hsl : l.length = s.size := by rw [← hl]; rfl
  have hsz : rb.size ≤ s.size := by rw [hrb, ← hsl]; exact hle
  have hrl : rb.data.toList = runR l := by rw [hrb]
  obtain ⟨ub, hub⟩ : ∃ ub : ByteArray, ub = ⟨((runR l).map upC).toArray⟩ := ⟨_, rfl⟩
  have HL := hide (fun w => lead_run s w (by unfold maxLen; omega))
  have HU := hide (fun w => upper_val rb w (by omega))
  have HN := hide (fun w => name_val rb w)
  have HF := hide (fun w (he : Env4 w) => parse4_val rb w (by omega) he)
  have HB1 := hide (fun w => unblanked_val (s.extract rb.size s.size) w)
  have HP1 := hide (fun w => Tryz.strings_HasPrefix ⟨(unbl (l.dropWhile inRunC)).toArray⟩ ⟨#[40]⟩ w)
  have hcall : Lib.hasPrefix (⟨(unbl (l.dropWhile inRunC)).toArray⟩ : ByteArray).data.toList (⟨#[40]⟩ : ByteArray).data.toList = callB l := by
    unfold callB
    show Lib.hasPrefix (unbl (l.dropWhile inRunC)) [40] = _
    unfold Lib.hasPrefix
    cases unbl (l.dropWhile inRunC) with
    | nil => rfl
    | cons d m =>
      rw [List.head?_cons, Bool.eq_iff_iff]
      simp only [List.isPrefixOf, Bool.and_true, beq_iff_eq, Option.some.injEq]
      exact eq_comm
  rw [hcall] at HP1
  rw [hl, show (⟨(l.takeWhile inRunC).toArray⟩ : ByteArray) = rb from hrb.symm] at HL
  rw [show mapB upC rb = ub by rw [hub]; unfold mapB; rw [hrl]] at HU
  rw [hrl] at HN HF
  have hdr : (s.extract rb.size s.size).data.toList = l.dropWhile inRunC := by
    rw [ext_drop, hl]
    show l.drop rb.size = _
    rw [show rb.size = (runR l).length by omega]
    exact tw_drop inRunC l
  rw [hdr] at HB1
  have i1 : (0 : Int) ≤ (rb.size : Int) := by omega
  have i2 : (rb.size : Int) ≤ (s.size : Int) := by omega
  have EW : (wordT (runR l)).cells = #[.int .i64 4, .string ub, .int .i64 0, .int .i64 0, .string ⟨#[]⟩, .string ⟨#[]⟩, .int .i64 0, .int .i64 0, .bool false, .bool false, .int .i64 0, .int .i64 0, .bool false, .bool false, .bool false, .int .i64 0] := by rw [hub]; rfl
  have HE := hide he
  cases q0 : nameG (runR l)
  · rw [q0] at HN
    by_cases q2 : (fullP (runR l)).2 = 0
    · have E : nameTok l = (⟨⟨3, emp, 0, 0, (fullP (runR l)).1, 0⟩, (runR l).length, 0⟩ : Tok) := by unfold nameTok; rw [q0, Bool.false_and, if_neg (by decide), if_pos q2]
      rw [E]
      show Calls _ _ _ _ fun e w' => e = Ending.returned (Value.tuple #[Value.agg (Tk.cells ⟨3, emp, 0, 0, (fullP (runR l)).1, 0⟩), Value.int .i64 (((runR l).length : Nat) : Int), _]) ∧ _
      rw [← hz]
      rw [q2] at HF
      generalize (fullP (runR l)).1 = X at HF ⊢
      obtain ⟨bk, sh, ⟨c1, r1, f1, g1⟩, ⟨c2, r2, f2, g2⟩, wd⟩ := X
      exact nd_ref s rb ub w HE HL HU HN bk sh c1 r1 c2 r2 f1 g1 f2 g2 wd HF
    by_cases q3 : (fullP (runR l)).2 = 4
    · have E : nameTok l = badT (fullP (runR l)).2 := by unfold nameTok; rw [q0, Bool.false_and, if_neg (by decide), if_neg q2, if_neg (fun e => by cases e.2)]
      rw [E]
      rw [q3] at HF ⊢
      generalize (fullP (runR l)).1 = X at HF ⊢
      obtain ⟨bk, sh, ⟨c1, r1, f1, g1⟩, ⟨c2, r2, f2, g2⟩, wd⟩ := X
      exact nd_form s rb ub w HE HL HU HN bk sh c1 r1 c2 r2 f1 g1 f2 g2 wd HF
    · have E : nameTok l = badT (fullP (runR l)).2 := by unfold nameTok; rw [q0, Bool.false_and, if_neg (by decide), if_neg q2, if_neg (fun e => by cases e.2)]
      rw [E]
      generalize (fullP (runR l)).1 = X at HF ⊢
      obtain ⟨bk, sh, ⟨c1, r1, f1, g1⟩, ⟨c2, r2, f2, g2⟩, wd⟩ := X
      exact nd_bad s rb ub w HE HL HU HN bk sh c1 r1 c2 r2 f1 g1 f2 g2 wd _ HF q2 q3
  · rw [q0] at HN
    cases q1 : callB l
    · rw [q1] at HP1
      by_cases q2 : (fullP (runR l)).2 = 0
      · have E : nameTok l = (⟨⟨3, emp, 0, 0, (fullP (runR l)).1, 0⟩, (runR l).length, 0⟩ : Tok) := by unfold nameTok; rw [q0, q1, if_neg (by decide), if_pos q2]
        rw [E]
        show Calls _ _ _ _ fun e w' => e = Ending.returned (Value.tuple #[Value.agg (Tk.cells ⟨3, emp, 0, 0, (fullP (runR l)).1, 0⟩), Value.int .i64 (((runR l).length : Nat) : Int), _]) ∧ _
        rw [← hz]
        rw [q2] at HF
        generalize (fullP (runR l)).1 = X at HF ⊢
        obtain ⟨bk, sh, ⟨c1, r1, f1, g1⟩, ⟨c2, r2, f2, g2⟩, wd⟩ := X
        exact nd_ref_n s rb ub _ w HE i1 i2 HL HU HN HB1 HP1 bk sh c1 r1 c2 r2 f1 g1 f2 g2 wd HF
      by_cases q3 : (fullP (runR l)).2 = 4
      · have E : nameTok l = (⟨wordT (runR l), (runR l).length, 0⟩ : Tok) := by unfold nameTok; rw [q0, q1, if_neg (by decide), if_neg q2, if_pos ⟨q3, rfl⟩]
        rw [E]
        show Calls _ _ _ _ fun e w' => e = Ending.returned (Value.tuple #[Value.agg (wordT (runR l)).cells, Value.int .i64 (((runR l).length : Nat) : Int), _]) ∧ _
        rw [EW, ← hz]
        rw [q3] at HF
        generalize (fullP (runR l)).1 = X at HF ⊢
        obtain ⟨bk, sh, ⟨c1, r1, f1, g1⟩, ⟨c2, r2, f2, g2⟩, wd⟩ := X
        exact nd_word s rb ub _ w HE i1 i2 HL HU HN HB1 HP1 bk sh c1 r1 c2 r2 f1 g1 f2 g2 wd HF
      · have E : nameTok l = badT (fullP (runR l)).2 := by unfold nameTok; rw [q0, q1, if_neg (by decide), if_neg q2, if_neg (fun e => q3 e.1)]
        rw [E]
        generalize (fullP (runR l)).1 = X at HF ⊢
        obtain ⟨bk, sh, ⟨c1, r1, f1, g1⟩, ⟨c2, r2, f2, g2⟩, wd⟩ := X
        exact nd_bad_n s rb ub _ w HE i1 i2 HL HU HN HB1 HP1 bk sh c1 r1 c2 r2 f1 g1 f2 g2 wd _ HF q2 q3
    · rw [q1] at HP1
      have E : nameTok l = (⟨wordT (runR l), (runR l).length, 0⟩ : Tok) := by unfold nameTok; rw [q0, q1, if_pos (by decide)]
      rw [E]
      show Calls _ _ _ _ fun e w' => e = Ending.returned (Value.tuple #[Value.agg (wordT (runR l)).cells, Value.int .i64 (((runR l).length : Nat) : Int), _]) ∧ _
      rw [EW, ← hz]
      exact nd_called s rb ub _ w i1 i2 HL HU HN HB1 HP1
end Go.Proofs.YtloamahbghjjgaaGreatDoor
