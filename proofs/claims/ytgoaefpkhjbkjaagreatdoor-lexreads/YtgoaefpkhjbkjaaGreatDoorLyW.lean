/- The contract of the reference's name. -/
import Derived.Test.YtgoaefpkhjbkjaaGreatDoorLyA
import Derived.Test.YtgoaefpkhjbkjaaGreatDoorLyZ
import Derived.Test.YtgoaefpkhjbkjaaGreatDoorLyE
import Derived.Test.YtgoaefpkhjbkjaaGreatDoorLyB
import Derived.Test.YtgoaefpkhjbkjaaGreatDoorLyX
import Derived.Test.YtgoaefpkhjbkjaaGreatDoorLxV
namespace Go.Proofs.YtgoaefpkhjbkjaaGreatDoor
open Go.RowKit

theorem take_tw (p : UInt8 → Bool) : ∀ l : List UInt8, l.take (l.takeWhile p).length = l.takeWhile p
  | [] => rfl
  | c :: l => by
    by_cases h : p c = true
    · rw [List.takeWhile_cons, if_pos h, List.length_cons, List.take_succ_cons, take_tw p l]
    · rw [List.takeWhile_cons, if_neg h]; rfl
theorem named5_ref (s : ByteArray) (w : World) (hs : s.size ≤ 1000) :
    Calls Tryz.prog 43 #[.string s] w fun e w' => e = .returned (.tuple #[.agg (nameTok s.data.toList).1.cells, .int .i64 (nameTok s.data.toList).2.1, .int .i64 (nameTok s.data.toList).2.2]) ∧ Below w.heap.size w w' := by
  obtain ⟨l, hl⟩ : ∃ l, s.data.toList = l := ⟨_, rfl⟩
  obtain ⟨rb, hrb⟩ : ∃ rb : ByteArray, rb = ⟨(runR l).toArray⟩ := ⟨_, rfl⟩
  have hle := tk_len inRunC s.data.toList
  have hsl : s.data.toList.length = s.size := rfl
  have hrl : rb.data.toList = runR l := by rw [hrb]
  have hrs : rb.size ≤ 1000 := by
    rw [hrb, ← hl]
    show (s.data.toList.takeWhile inRunC).length ≤ 1000
    omega
  obtain ⟨ub, hub⟩ : ∃ ub : ByteArray, ub = ⟨((runR l).map upC).toArray⟩ := ⟨_, rfl⟩
  have hex : Hid (s.extract 0 (runR l).length = rb) := hide (by
    rw [ext_take, hrb, hl]
    unfold runR
    rw [take_tw])
  have HN0 : Hid ((runR s.data.toList).length = (runR l).length) := hide (by rw [hl])
  have HL := hide (fun (c : UInt8) w => letter5_ref c w)
  have HD := hide (fun (c : UInt8) w => digit5_ref c w)
  have HH := hide (fun (c : UInt8) w => has5_ref ⟨#[95, 36, 91, 93, 33, 58]⟩ c w (by decide))
  have HNM := hide (fun w => name_ref rb w)
  have HU := hide (fun w => upper_ref rb w (by omega))
  have HF := hide (fun w => parse4_ref rb w (by omega))
  rw [show mapB upC rb = ub by rw [hub]; unfold mapB; rw [hrl]] at HU
  rw [hrl] at HNM HF
  have EW : (wordT (runR l)).cells = #[.int .i64 4, .string ub, .int .i64 0, .int .i64 0, .string ⟨#[]⟩, .string ⟨#[]⟩, .int .i64 0, .int .i64 0, .bool false, .bool false, .int .i64 0, .int .i64 0, .bool false, .bool false, .bool false, .int .i64 0] := by rw [hub]; rfl
  rw [hl]
  cases q0 : nameG (runR l)
  · rw [q0] at HNM
    by_cases q2 : (fullP (runR l)).2 = 0
    · have E : nameTok l = (⟨⟨3, emp, 0, 0, (fullP (runR l)).1, 0⟩, (runR l).length, 0⟩ : Tok) := by unfold nameTok; rw [q0, Bool.false_and, if_neg (by decide), if_pos q2]
      rw [E]
      rw [q2] at HF
      generalize (fullP (runR l)).1 = X at HF ⊢
      obtain ⟨bk, sh, ⟨c1, r1, f1, g1⟩, ⟨c2, r2, f2, g2⟩, wd⟩ := X
      exact nr_ref false s rb ub _ w hs hex HN0 (hide (by exact rfl)) HL HD HH HNM HU bk sh c1 r1 c2 r2 f1 g1 f2 g2 wd HF
    by_cases q3 : (fullP (runR l)).2 = 4
    · have E : nameTok l = badT (fullP (runR l)).2 := by unfold nameTok; rw [q0, Bool.false_and, if_neg (by decide), if_neg q2, if_neg (fun e => by cases e.2)]
      rw [E]
      rw [q3] at HF ⊢
      generalize (fullP (runR l)).1 = X at HF ⊢
      obtain ⟨bk, sh, ⟨c1, r1, f1, g1⟩, ⟨c2, r2, f2, g2⟩, wd⟩ := X
      exact nr_form s rb ub _ w hs hex HN0 HL HD HH HNM HU bk sh c1 r1 c2 r2 f1 g1 f2 g2 wd HF
    · have E : nameTok l = badT (fullP (runR l)).2 := by unfold nameTok; rw [q0, Bool.false_and, if_neg (by decide), if_neg q2, if_neg (fun e => by cases e.2)]
      rw [E]
      generalize (fullP (runR l)).1 = X at HF ⊢
      obtain ⟨bk, sh, ⟨c1, r1, f1, g1⟩, ⟨c2, r2, f2, g2⟩, wd⟩ := X
      exact nr_bad false s rb ub _ w hs hex HN0 (hide (by exact rfl)) HL HD HH HNM HU bk sh c1 r1 c2 r2 f1 g1 f2 g2 wd _ HF q2 q3
  · rw [q0] at HNM
    cases q1 : callB l
    · by_cases q2 : (fullP (runR l)).2 = 0
      · have E : nameTok l = (⟨⟨3, emp, 0, 0, (fullP (runR l)).1, 0⟩, (runR l).length, 0⟩ : Tok) := by unfold nameTok; rw [q0, q1, if_neg (by decide), if_pos q2]
        rw [E]
        rw [q2] at HF
        generalize (fullP (runR l)).1 = X at HF ⊢
        obtain ⟨bk, sh, ⟨c1, r1, f1, g1⟩, ⟨c2, r2, f2, g2⟩, wd⟩ := X
        exact nr_ref true s rb ub _ w hs hex HN0 (hide (by rw [hl, q1]; rfl)) HL HD HH HNM HU bk sh c1 r1 c2 r2 f1 g1 f2 g2 wd HF
      by_cases q3 : (fullP (runR l)).2 = 4
      · have E : nameTok l = (⟨wordT (runR l), (runR l).length, 0⟩ : Tok) := by unfold nameTok; rw [q0, q1, if_neg (by decide), if_neg q2, if_pos ⟨q3, rfl⟩]
        rw [E]
        show Calls _ _ _ _ fun e w' => e = Ending.returned (Value.tuple #[Value.agg (wordT (runR l)).cells, Value.int .i64 (((runR l).length : Nat) : Int), _]) ∧ _
        rw [EW]
        rw [q3] at HF
        generalize (fullP (runR l)).1 = X at HF ⊢
        obtain ⟨bk, sh, ⟨c1, r1, f1, g1⟩, ⟨c2, r2, f2, g2⟩, wd⟩ := X
        exact nr_word s rb ub _ w hs hex HN0 (hide (by rw [hl, q1]; rfl)) HL HD HH HNM HU bk sh c1 r1 c2 r2 f1 g1 f2 g2 wd HF
      · have E : nameTok l = badT (fullP (runR l)).2 := by unfold nameTok; rw [q0, q1, if_neg (by decide), if_neg q2, if_neg (fun e => q3 e.1)]
        rw [E]
        generalize (fullP (runR l)).1 = X at HF ⊢
        obtain ⟨bk, sh, ⟨c1, r1, f1, g1⟩, ⟨c2, r2, f2, g2⟩, wd⟩ := X
        exact nr_bad true s rb ub _ w hs hex HN0 (hide (by rw [hl, q1]; rfl)) HL HD HH HNM HU bk sh c1 r1 c2 r2 f1 g1 f2 g2 wd _ HF q2 q3
    · have E : nameTok l = (⟨wordT (runR l), (runR l).length, 0⟩ : Tok) := by unfold nameTok; rw [q0, q1, if_pos (by decide)]
      rw [E]
      show Calls _ _ _ _ fun e w' => e = Ending.returned (Value.tuple #[Value.agg (wordT (runR l)).cells, Value.int .i64 (((runR l).length : Nat) : Int), _]) ∧ _
      rw [EW]
      exact nr_called s rb ub _ w hs hex HN0 (hide (by rw [hl, q1]; rfl)) HL HD HH HNM HU
end Go.Proofs.YtgoaefpkhjbkjaaGreatDoor

namespace Go.Proofs.YtgoaefpkhjbkjaaGreatDoor
open Go.RowKit

/-- What the reference tells of the first token: the same, but for the token of a number that is none. -/
def tokRf (l : List UInt8) : Tok := if isDg (l.headD 0) = true then numRf l else tok1 l
theorem numRf_e (l : List UInt8) : (numRf l).2.2 = (numTok l).2.2 ∧ ((numTok l).2.2 = 0 → numRf l = numTok l) := by
  unfold numRf numTok
  by_cases h : (parseR (numR l)).2 = 0
  · rw [if_pos h, h]; exact ⟨rfl, fun _ => rfl⟩
  · rw [if_neg h]; exact ⟨rfl, fun e => absurd e h⟩
theorem tokRf_e (l : List UInt8) : (tokRf l).2.2 = (tok1 l).2.2 ∧ ((tok1 l).2.2 = 0 → tokRf l = tok1 l) := by
  unfold tokRf
  by_cases h : isDg (l.headD 0) = true
  · have e : tok1 l = numTok l := by unfold tok1; rw [if_pos h]
    rw [if_pos h, e]; exact numRf_e l
  · rw [if_neg h]; exact ⟨rfl, fun _ => rfl⟩
theorem byte_t (c k : UInt8) (v : Bool) (h : (c == k) = v) (x : Int) (hx : (k.toNat : Int) = x) : ((c.toNat : Int) == x) = v := by
  rw [← hx, ← byte_eq, h]
theorem one5_ref (s : ByteArray) (w : World) (hs : s.size ≤ 1000) (h0 : 0 < s.size) :
    Calls Tryz.prog 18 #[.string s] w fun e w' => e = .returned (.tuple #[.agg (tokRf s.data.toList).1.cells, .int .i64 (tokRf s.data.toList).2.1, .int .i64 (tokRf s.data.toList).2.2]) ∧ Below w.heap.size w w' := by
  have HD := hide (fun w => digit5_ref s[0] w)
  have HL := hide (fun w => letter5_ref s[0] w)
  have HO := hide (fun w => has5_ref ⟨#[43, 45, 42, 47, 94, 38, 61, 37, 60, 62]⟩ s[0] w (by decide))
  rw [show (⟨#[43, 45, 42, 47, 94, 38, 61, 37, 60, 62]⟩ : ByteArray).data.toList.contains s[0] = opC s[0] from rfl] at HO
  have hh := head_s s h0
  have hd : s.data.toList.headD 0 = s[0] := by rw [hh]; rfl
  have E : ∀ c, s.data.toList.headD 0 = c → tokRf s.data.toList = (if isDg c = true then numRf s.data.toList else tok1 s.data.toList) := by
    rintro c rfl; rfl
  have E := E _ hd
  have E1 : ∀ c, s.data.toList.headD 0 = c → tok1 s.data.toList = (if isDg c = true then numTok s.data.toList else if headC c = true then nameTok s.data.toList else if opC c = true then opTok s.data.toList else if c = 34 then textTok s.data.toList else if c = 35 then failTok s.data.toList else if c = 40 then sgnT 6 else if c = 41 then sgnT 7 else if c = 44 then sgnT 8 else badT 4) := by
    rintro c rfl; rfl
  have E1 := E1 _ hd
  clear hd
  cases q1 : isDg s[0]
  · rw [q1, if_neg (by decide)] at E E1
    rw [q1] at HD
    by_cases k34 : s[0] = 34
    · rw [show headC s[0] = false by rw [k34]; decide, if_neg (by decide), show opC s[0] = false by rw [k34]; decide, if_neg (by decide), if_pos k34] at E1
      rw [E, E1]
      exact or_text s w _ _ _ h0 (hide (tk_row _)) HD (byte_t s[0] 34 true (by rw [k34]; rfl) 34 rfl) (hide (fun w => text5_ref s w hs (by omega)))
    by_cases k35 : s[0] = 35
    · rw [show headC s[0] = false by rw [k35]; decide, if_neg (by decide), show opC s[0] = false by rw [k35]; decide, if_neg (by decide), if_neg k34, if_pos k35] at E1
      rw [E, E1]
      exact or_fail s w _ _ _ h0 (hide (tk_row _)) HD (byte_t s[0] 34 false (beq_eq_false_iff_ne.2 k34) 34 rfl) (byte_t s[0] 35 true (by rw [k35]; rfl) 35 rfl) (hide (fun w => fail5_ref s w))
    cases q2 : isLet s[0]
    · rw [q2] at HL
      by_cases k95 : s[0] = 95
      · rw [show headC s[0] = true by rw [k95]; decide, if_pos rfl] at E1
        rw [E, E1]
        exact or_h95 s w _ _ _ h0 (hide (tk_row _)) HD (byte_t s[0] 34 false (beq_eq_false_iff_ne.2 k34) 34 rfl) (byte_t s[0] 35 false (beq_eq_false_iff_ne.2 k35) 35 rfl) HL (byte_t s[0] 95 true (by rw [k95]; rfl) 95 rfl) (hide (fun w => named5_ref s w hs))
      by_cases k36 : s[0] = 36
      · rw [show headC s[0] = true by rw [k36]; decide, if_pos rfl] at E1
        rw [E, E1]
        exact or_h36 s w _ _ _ h0 (hide (tk_row _)) HD (byte_t s[0] 34 false (beq_eq_false_iff_ne.2 k34) 34 rfl) (byte_t s[0] 35 false (beq_eq_false_iff_ne.2 k35) 35 rfl) HL (byte_t s[0] 95 false (beq_eq_false_iff_ne.2 k95) 95 rfl) (byte_t s[0] 36 true (by rw [k36]; rfl) 36 rfl) (hide (fun w => named5_ref s w hs))
      by_cases k91 : s[0] = 91
      · rw [show headC s[0] = true by rw [k91]; decide, if_pos rfl] at E1
        rw [E, E1]
        exact or_h91 s w _ _ _ h0 (hide (tk_row _)) HD (byte_t s[0] 34 false (beq_eq_false_iff_ne.2 k34) 34 rfl) (byte_t s[0] 35 false (beq_eq_false_iff_ne.2 k35) 35 rfl) HL (byte_t s[0] 95 false (beq_eq_false_iff_ne.2 k95) 95 rfl) (byte_t s[0] 36 false (beq_eq_false_iff_ne.2 k36) 36 rfl) (byte_t s[0] 91 true (by rw [k91]; rfl) 91 rfl) (hide (fun w => named5_ref s w hs))
      have qh : headC s[0] = false := by
        unfold headC headL
        rw [q2]
        simp only [List.contains_cons, List.contains_nil, Bool.or_false, Bool.false_or]
        rw [beq_eq_false_iff_ne.2 k95, beq_eq_false_iff_ne.2 k36, beq_eq_false_iff_ne.2 k91]; rfl
      rw [qh, if_neg (by decide)] at E1
      cases q4 : opC s[0]
      · rw [q4, if_neg (by decide), if_neg k34, if_neg k35] at E1
        rw [q4] at HO
        by_cases k40 : s[0] = 40
        · rw [if_pos k40] at E1
          rw [E, E1]
          exact or_open s w h0 HD (byte_t s[0] 34 false (beq_eq_false_iff_ne.2 k34) 34 rfl) (byte_t s[0] 35 false (beq_eq_false_iff_ne.2 k35) 35 rfl) HL (byte_t s[0] 95 false (beq_eq_false_iff_ne.2 k95) 95 rfl) (byte_t s[0] 36 false (beq_eq_false_iff_ne.2 k36) 36 rfl) (byte_t s[0] 91 false (beq_eq_false_iff_ne.2 k91) 91 rfl) HO (byte_t s[0] 40 true (by rw [k40]; rfl) 40 rfl)
        by_cases k41 : s[0] = 41
        · rw [if_neg k40, if_pos k41] at E1
          rw [E, E1]
          exact or_close s w h0 HD (byte_t s[0] 34 false (beq_eq_false_iff_ne.2 k34) 34 rfl) (byte_t s[0] 35 false (beq_eq_false_iff_ne.2 k35) 35 rfl) HL (byte_t s[0] 95 false (beq_eq_false_iff_ne.2 k95) 95 rfl) (byte_t s[0] 36 false (beq_eq_false_iff_ne.2 k36) 36 rfl) (byte_t s[0] 91 false (beq_eq_false_iff_ne.2 k91) 91 rfl) HO (byte_t s[0] 40 false (beq_eq_false_iff_ne.2 k40) 40 rfl) (byte_t s[0] 41 true (by rw [k41]; rfl) 41 rfl)
        by_cases k44 : s[0] = 44
        · rw [if_neg k40, if_neg k41, if_pos k44] at E1
          rw [E, E1]
          exact or_comma s w h0 HD (byte_t s[0] 34 false (beq_eq_false_iff_ne.2 k34) 34 rfl) (byte_t s[0] 35 false (beq_eq_false_iff_ne.2 k35) 35 rfl) HL (byte_t s[0] 95 false (beq_eq_false_iff_ne.2 k95) 95 rfl) (byte_t s[0] 36 false (beq_eq_false_iff_ne.2 k36) 36 rfl) (byte_t s[0] 91 false (beq_eq_false_iff_ne.2 k91) 91 rfl) HO (byte_t s[0] 40 false (beq_eq_false_iff_ne.2 k40) 40 rfl) (byte_t s[0] 41 false (beq_eq_false_iff_ne.2 k41) 41 rfl) (byte_t s[0] 44 true (by rw [k44]; rfl) 44 rfl)
        rw [if_neg k40, if_neg k41, if_neg k44] at E1
        rw [E, E1]
        exact or_none s w h0 HD (byte_t s[0] 34 false (beq_eq_false_iff_ne.2 k34) 34 rfl) (byte_t s[0] 35 false (beq_eq_false_iff_ne.2 k35) 35 rfl) HL (byte_t s[0] 95 false (beq_eq_false_iff_ne.2 k95) 95 rfl) (byte_t s[0] 36 false (beq_eq_false_iff_ne.2 k36) 36 rfl) (byte_t s[0] 91 false (beq_eq_false_iff_ne.2 k91) 91 rfl) HO (byte_t s[0] 40 false (beq_eq_false_iff_ne.2 k40) 40 rfl) (byte_t s[0] 41 false (beq_eq_false_iff_ne.2 k41) 41 rfl) (byte_t s[0] 44 false (beq_eq_false_iff_ne.2 k44) 44 rfl)
      · rw [q4, if_pos rfl] at E1
        rw [q4] at HO
        rw [E, E1]
        have tw : ∀ h : 1 < s.size, twoB s.data.toList = (((s[1] == 61) && ((s[0] == 60) || (s[0] == 62))) || ((s[0] == 60) && (s[1] == 62))) := by
          intro h
          have hk : 0 < s.data.toList.length := h0
          have hk1 : 0 + 1 < s.data.toList.length := h
          have e := List.drop_eq_getElem_cons hk
          rw [List.drop_zero, List.drop_eq_getElem_cons hk1] at e
          rw [e]
          rfl
        cases q5 : twoB s.data.toList
        · have on : opN s.data.toList = 1 := by unfold opN; rw [q5]; rfl
          have k := or_op1 s w h0 HD (byte_t s[0] 34 false (beq_eq_false_iff_ne.2 k34) 34 rfl) (byte_t s[0] 35 false (beq_eq_false_iff_ne.2 k35) 35 rfl) HL (byte_t s[0] 95 false (beq_eq_false_iff_ne.2 k95) 95 rfl) (byte_t s[0] 36 false (beq_eq_false_iff_ne.2 k36) 36 rfl) (byte_t s[0] 91 false (beq_eq_false_iff_ne.2 k91) 91 rfl) HO ⟨(s.data.toList.take 1).toArray⟩ (ext_take s 1) (hide (fun h => by rw [← tw h, q5])) (by omega)
          unfold opTok
          rw [on]
          exact k
        · have h1 : 1 < s.size := by
            rcases Nat.lt_or_ge 1 s.size with h | h
            · exact h
            · exfalso
              have hl : s.data.toList.length = s.size := rfl
              rw [hh] at q5
              have h2 : s.data.toList.tail = [] := List.eq_nil_of_length_eq_zero (by rw [List.length_tail, hl]; omega)
              rw [h2] at q5
              cases q5
          have on : opN s.data.toList = 2 := by unfold opN; rw [q5]; rfl
          have k := or_op2 s w h0 HD (byte_t s[0] 34 false (beq_eq_false_iff_ne.2 k34) 34 rfl) (byte_t s[0] 35 false (beq_eq_false_iff_ne.2 k35) 35 rfl) HL (byte_t s[0] 95 false (beq_eq_false_iff_ne.2 k95) 95 rfl) (byte_t s[0] 36 false (beq_eq_false_iff_ne.2 k36) 36 rfl) (byte_t s[0] 91 false (beq_eq_false_iff_ne.2 k91) 91 rfl) HO ⟨(s.data.toList.take 2).toArray⟩ (ext_take s 2) (hide (fun h => by rw [← tw h, q5])) (hide h1) (by omega)
          unfold opTok
          rw [on]
          exact k
    · rw [q2] at HL
      rw [show headC s[0] = true by unfold headC; rw [q2]; rfl, if_pos rfl] at E1
      rw [E, E1]
      exact or_let s w _ _ _ h0 (hide (tk_row _)) HD (byte_t s[0] 34 false (beq_eq_false_iff_ne.2 k34) 34 rfl) (byte_t s[0] 35 false (beq_eq_false_iff_ne.2 k35) 35 rfl) HL (hide (fun w => named5_ref s w hs))
  · rw [q1, if_pos rfl] at E
    rw [q1] at HD
    rw [E]
    exact or_num s w _ _ _ h0 (hide (tk_row _)) HD (hide (fun w => number5_ref s w hs))
end Go.Proofs.YtgoaefpkhjbkjaaGreatDoor
