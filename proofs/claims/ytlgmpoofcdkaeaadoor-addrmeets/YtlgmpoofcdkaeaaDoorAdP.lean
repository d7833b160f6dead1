/- The contract of parted. -/
import Derived.Test.YtlgmpoofcdkaeaaDoorAdO
namespace Go.Proofs.YtlgmpoofcdkaeaaDoor
open Go.RowKit

theorem results_tmp4 {fn : Func} {t u v x : Tmp} (h : fn.results = #[.tmp t, .tmp u, .tmp v, .tmp x]) (tmps : Array Value) (P : Program) (w : World) :
    (results fn tmps).run P w = .ok (.tuple #[tmps.getD t undef, tmps.getD u undef, tmps.getD v undef, tmps.getD x undef]) w := by
  simp [results, h]
theorem cut91 (s : ByteArray) (l : List UInt8) (w : World) (hl : s.data.toList = l) :
    Calls Tryd.prog 54 #[.string s, .string ⟨#[91]⟩] w fun e w' => e = .returned (.tuple #[.string ⟨(if bkB l = true then l.tail else l).toArray⟩, .bool (bkB l)]) ∧ w' = w := by
  subst hl
  have h := Tryd.strings_CutPrefix s ⟨#[91]⟩ w
  have e1 : ∀ l : List UInt8, Lib.hasPrefix l [91] = bkB l := by
    intro l
    unfold Lib.hasPrefix bkB
    cases l with
    | nil => rfl
    | cons c l =>
      show ((91 == c) && true) = (some c == some 91)
      by_cases h : c = 91
      · subst h; rfl
      · rw [show ((91 : UInt8) == c) = false from beq_eq_false_iff_ne.2 (Ne.symm h), show (some c == some 91) = false from beq_eq_false_iff_ne.2 (by intro e; exact h (Option.some.inj e))]; rfl
  have e2 : ∀ l : List UInt8, Lib.trimPrefix l [91] = if bkB l = true then l.tail else l := by
    intro l
    unfold Lib.trimPrefix
    rw [e1]
    cases l <;> rfl
  rw [show (⟨#[91]⟩ : ByteArray).data.toList = [91] from rfl, e1, e2] at h
  exact h
theorem cutAt (s : ByteArray) (l : List UInt8) (c : UInt8) (w : World) (hl : s.data.toList = l) (hz : l.length < 4294967281) (he : Env4 w) :
    Calls Tryd.prog 58 #[.string s, .string ⟨#[c]⟩] w fun e w' => e = .returned (.tuple #[.string ⟨(Lib.cut l [c]).1.toArray⟩, .string ⟨(Lib.cut l [c]).2.1.toArray⟩, .bool (Lib.cut l [c]).2.2]) ∧ Below w.heap.size w w' := by
  subst hl
  obtain ⟨m, hm⟩ := he.len
  exact (Tryd.strings_Cut s ⟨#[c]⟩ m w hz hm).mono (fun e w' ⟨h1, n, h2⟩ => ⟨h1, by rw [h2]; exact below_drewN (Below.refl _ _) n⟩)
theorem cut_le (l : List UInt8) (c : UInt8) : (Lib.cut l [c]).1.length ≤ l.length ∧ (Lib.cut l [c]).2.1.length ≤ l.length := by
  unfold Lib.cut
  split
  · simp only [List.length_take, List.length_drop]; omega
  · exact ⟨Nat.le_refl _, Nat.zero_le _⟩
/-- What parted answers. -/
def PartPost (l : List UInt8) (w : World) (e : Ending) (w' : World) : Prop :=
  ∃ B S P : ByteArray, e = .returned (.tuple #[.string B, .string S, .string P, .bool (partOk l)]) ∧ (partOk l = true → B = ⟨(partB l).toArray⟩ ∧ S = ⟨(partS l).toArray⟩ ∧ P = ⟨(partP l).toArray⟩) ∧ Below w.heap.size w w'
theorem bkR_len (l : List UInt8) : (bkR l).length ≤ l.length := by
  unfold bkR
  split
  · have := (cut_le l.tail 93).2
    unfold bkC
    rw [List.length_tail] at this
    omega
  · exact Nat.le_refl _
theorem partP_len (l : List UInt8) : (partP l).length ≤ l.length := by
  have h := bkR_len l
  unfold partP
  split
  · have := (cut_le (bkR l) 33).2
    unfold shC
    omega
  · exact h

set_option maxRecDepth 100000 in
set_option maxHeartbeats 4000000 in
theorem parted_val (s : ByteArray) (w : World) (hs : s.size < 4294967281) (he : Env4 w) :
    Calls Tryd.prog 57 #[.string s] w fun e w' => PartPost s.data.toList w e w' := by
  obtain ⟨l, hl⟩ : ∃ l, s.data.toList = l := ⟨_, rfl⟩
  have hz : l.length < 4294967281 := by rw [← hl]; exact hs
  rw [hl]
  have HE := hide he
  clear he hs
  have HC := hide (fun w => cut91 s l w hl)
  have HS := hide (fun w he => cutAt ⟨(bkR l).toArray⟩ (bkR l) 33 w rfl (by have := bkR_len l; omega) he)
  have HN := hide (fun w => name_val ⟨(shC l).1.toArray⟩ w)
  have FS : Hid (partS l = if (shC l).2.2 = true then (shC l).1 else []) := hide rfl
  have FP : Hid (partP l = if (shC l).2.2 = true then (shC l).2.1 else bkR l) := hide rfl
  have FB : Hid (partB l = if bkB l = true then (bkC l).1 else []) := hide rfl
  have FO : Hid (partOk l = (bkOk l && shOk l)) := hide rfl
  have FO1 : Hid (bkOk l = (!(bkB l) || ((bkC l).2.2 && nameG (bkC l).1))) := hide rfl
  have FO2 : Hid (shOk l = if (shC l).2.2 = true then nameG (shC l).1 else !(bkB l)) := hide rfl
  have FR : Hid (bkR l = if bkB l = true then (bkC l).2.1 else l) := hide rfl
  change Hid (∀ w : World, Env4 w → Calls Tryd.prog 58 #[.string ⟨(bkR l).toArray⟩, .string ⟨#[33]⟩] w fun e w' => e = .returned (.tuple #[.string ⟨(shC l).1.toArray⟩, .string ⟨(shC l).2.1.toArray⟩, .bool (shC l).2.2]) ∧ Below w.heap.size w w') at HS
  change Hid (∀ w : World, Calls Tryd.prog 20 #[.string ⟨(shC l).1.toArray⟩] w fun e w' => e = .returned (.bool (nameG (shC l).1)) ∧ Below w.heap.size w w') at HN
  have HZ := hide hz
  clear hl hz
  generalize shC l = sc at HS HN FS FP FO2
  obtain ⟨S1, S2, S3⟩ := sc
  simp only [] at HS HN FS FP FO2
  generalize nameG S1 = nS at HN FO2
  cases hb : bkB l
  · rw [hb] at HC FB FO1 FO2 FR
    rw [if_neg (by simp)] at HC FB FR
    rw [unhide FR] at HS FP
    have HSE : Hid (⟨l.toArray⟩ = (⟨l.toArray⟩ : ByteArray)) := hide rfl
    clear FR hb
    cases S3
    · have HO : Hid (partOk l = true) := hide (by rw [unhide FO, unhide FO1, unhide FO2]; rfl)
      go_enter Tryd.func57, Tryd.ntmps57
      have HB := hide (Below.refl w.heap.size w)
      go_wp2_with fail
      refine (unhide HC _).mono ?_
      rintro e w0 ⟨rfl, rfl⟩
      go_wp2_with fail
      refine (unhide HS _ ((unhide HE).below (unhide HB))).mono ?_
      rintro e w1 ⟨rfl, b1⟩
      replace HB := hide (below_nx (unhide HB) b1)
      clear b1
      go_wp2
      refine bodyPost_ret (results_tmp4 rfl _ _ _) rfl ?_
      exact ⟨_, _, _, by rw [unhide HO]; rfl, (fun _ => ⟨by rw [unhide FB], by rw [unhide FS]; rfl, by rw [unhide FP]; rfl⟩), unhide HB⟩
    · cases nS
      · have HO : Hid (partOk l = false) := hide (by rw [unhide FO, unhide FO1, unhide FO2]; rfl)
        go_enter Tryd.func57, Tryd.ntmps57
        have HB := hide (Below.refl w.heap.size w)
        go_wp2_with fail
        refine (unhide HC _).mono ?_
        rintro e w0 ⟨rfl, rfl⟩
        go_wp2_with fail
        refine (unhide HS _ ((unhide HE).below (unhide HB))).mono ?_
        rintro e w1 ⟨rfl, b1⟩
        replace HB := hide (below_nx (unhide HB) b1)
        clear b1
        go_wp2_with fail
        refine (unhide HN _).mono ?_
        rintro e w2 ⟨rfl, b2⟩
        replace HB := hide (below_nx (unhide HB) b2)
        clear b2
        go_wp2
        refine bodyPost_ret (results_tmp4 rfl _ _ _) rfl ?_
        exact ⟨_, _, _, by rw [unhide HO]; rfl, (fun h => by rw [unhide HO] at h; cases h), unhide HB⟩
      · have HO : Hid (partOk l = true) := hide (by rw [unhide FO, unhide FO1, unhide FO2]; rfl)
        go_enter Tryd.func57, Tryd.ntmps57
        have HB := hide (Below.refl w.heap.size w)
        go_wp2_with fail
        refine (unhide HC _).mono ?_
        rintro e w0 ⟨rfl, rfl⟩
        go_wp2_with fail
        refine (unhide HS _ ((unhide HE).below (unhide HB))).mono ?_
        rintro e w1 ⟨rfl, b1⟩
        replace HB := hide (below_nx (unhide HB) b1)
        clear b1
        go_wp2_with fail
        refine (unhide HN _).mono ?_
        rintro e w2 ⟨rfl, b2⟩
        replace HB := hide (below_nx (unhide HB) b2)
        clear b2
        go_wp2
        refine bodyPost_ret (results_tmp4 rfl _ _ _) rfl ?_
        exact ⟨_, _, _, by rw [unhide HO]; rfl, (fun _ => ⟨by rw [unhide FB], by rw [unhide FS]; rfl, by rw [unhide FP]; rfl⟩), unhide HB⟩
  · have HC2 := hide (fun w he => cutAt ⟨l.tail.toArray⟩ l.tail 93 w rfl (by rw [List.length_tail]; have := unhide HZ; omega) he)
    have HN2 := hide (fun w => name_val ⟨(bkC l).1.toArray⟩ w)
    change Hid (∀ w : World, Env4 w → Calls Tryd.prog 58 #[.string ⟨l.tail.toArray⟩, .string ⟨#[93]⟩] w fun e w' => e = .returned (.tuple #[.string ⟨(bkC l).1.toArray⟩, .string ⟨(bkC l).2.1.toArray⟩, .bool (bkC l).2.2]) ∧ Below w.heap.size w w') at HC2
    change Hid (∀ w : World, Calls Tryd.prog 20 #[.string ⟨(bkC l).1.toArray⟩] w fun e w' => e = .returned (.bool (nameG (bkC l).1)) ∧ Below w.heap.size w w') at HN2
    rw [hb] at HC FB FO1 FO2 FR
    rw [if_pos rfl] at HC FB FR
    rw [unhide FR] at HS FP
    clear FR hb
    generalize bkC l = bc at HC2 HN2 FB FO1 HS FP
    obtain ⟨B1, B2, B3⟩ := bc
    simp only [] at HC2 HN2 FB FO1 HS FP
    generalize nameG B1 = nB at HN2 FO1
    cases B3
    · have HO : Hid (partOk l = false) := hide (by rw [unhide FO, unhide FO1]; rfl)
      go_enter Tryd.func57, Tryd.ntmps57
      have HB := hide (Below.refl w.heap.size w)
      go_wp2_with fail
      refine (unhide HC _).mono ?_
      rintro e w0 ⟨rfl, rfl⟩
      go_wp2_with fail
      refine (unhide HC2 _ ((unhide HE).below (unhide HB))).mono ?_
      rintro e w1 ⟨rfl, b1⟩
      replace HB := hide (below_nx (unhide HB) b1)
      clear b1
      go_wp2
      refine bodyPost_ret (results_tmp4 rfl _ _ _) rfl ?_
      exact ⟨_, _, _, by rw [unhide HO]; rfl, (fun h => by rw [unhide HO] at h; cases h), unhide HB⟩
    · cases nB
      · have HO : Hid (partOk l = false) := hide (by rw [unhide FO, unhide FO1]; rfl)
        go_enter Tryd.func57, Tryd.ntmps57
        have HB := hide (Below.refl w.heap.size w)
        go_wp2_with fail
        refine (unhide HC _).mono ?_
        rintro e w0 ⟨rfl, rfl⟩
        go_wp2_with fail
        refine (unhide HC2 _ ((unhide HE).below (unhide HB))).mono ?_
        rintro e w1 ⟨rfl, b1⟩
        replace HB := hide (below_nx (unhide HB) b1)
        clear b1
        go_wp2_with fail
        refine (unhide HN2 _).mono ?_
        rintro e w2 ⟨rfl, b2⟩
        replace HB := hide (below_nx (unhide HB) b2)
        clear b2
        go_wp2
        refine bodyPost_ret (results_tmp4 rfl _ _ _) rfl ?_
        exact ⟨_, _, _, by rw [unhide HO]; rfl, (fun h => by rw [unhide HO] at h; cases h), unhide HB⟩
      · cases S3
        · have HO : Hid (partOk l = false) := hide (by rw [unhide FO, unhide FO1, unhide FO2]; rfl)
          go_enter Tryd.func57, Tryd.ntmps57
          have HB := hide (Below.refl w.heap.size w)
          go_wp2_with fail
          refine (unhide HC _).mono ?_
          rintro e w0 ⟨rfl, rfl⟩
          go_wp2_with fail
          refine (unhide HC2 _ ((unhide HE).below (unhide HB))).mono ?_
          rintro e w1 ⟨rfl, b1⟩
          replace HB := hide (below_nx (unhide HB) b1)
          clear b1
          go_wp2_with fail
          refine (unhide HN2 _).mono ?_
          rintro e w2 ⟨rfl, b2⟩
          replace HB := hide (below_nx (unhide HB) b2)
          clear b2
          go_wp2_with fail
          refine (unhide HS _ ((unhide HE).below (unhide HB))).mono ?_
          rintro e w3 ⟨rfl, b3⟩
          replace HB := hide (below_nx (unhide HB) b3)
          clear b3
          go_wp2
          refine bodyPost_ret (results_tmp4 rfl _ _ _) rfl ?_
          exact ⟨_, _, _, by rw [unhide HO]; rfl, (fun h => by rw [unhide HO] at h; cases h), unhide HB⟩
        · cases nS
          · have HO : Hid (partOk l = false) := hide (by rw [unhide FO, unhide FO1, unhide FO2]; rfl)
            go_enter Tryd.func57, Tryd.ntmps57
            have HB := hide (Below.refl w.heap.size w)
            go_wp2_with fail
            refine (unhide HC _).mono ?_
            rintro e w0 ⟨rfl, rfl⟩
            go_wp2_with fail
            refine (unhide HC2 _ ((unhide HE).below (unhide HB))).mono ?_
            rintro e w1 ⟨rfl, b1⟩
            replace HB := hide (below_nx (unhide HB) b1)
            clear b1
            go_wp2_with fail
            refine (unhide HN2 _).mono ?_
            rintro e w2 ⟨rfl, b2⟩
            replace HB := hide (below_nx (unhide HB) b2)
            clear b2
            go_wp2_with fail
            refine (unhide HS _ ((unhide HE).below (unhide HB))).mono ?_
            rintro e w3 ⟨rfl, b3⟩
            replace HB := hide (below_nx (unhide HB) b3)
            clear b3
            go_wp2_with fail
            refine (unhide HN _).mono ?_
            rintro e w4 ⟨rfl, b4⟩
            replace HB := hide (below_nx (unhide HB) b4)
            clear b4
            go_wp2
            refine bodyPost_ret (results_tmp4 rfl _ _ _) rfl ?_
            exact ⟨_, _, _, by rw [unhide HO]; rfl, (fun h => by rw [unhide HO] at h; cases h), unhide HB⟩
          · have HO : Hid (partOk l = true) := hide (by rw [unhide FO, unhide FO1, unhide FO2]; rfl)
            go_enter Tryd.func57, Tryd.ntmps57
            have HB := hide (Below.refl w.heap.size w)
            go_wp2_with fail
            refine (unhide HC _).mono ?_
            rintro e w0 ⟨rfl, rfl⟩
            go_wp2_with fail
            refine (unhide HC2 _ ((unhide HE).below (unhide HB))).mono ?_
            rintro e w1 ⟨rfl, b1⟩
            replace HB := hide (below_nx (unhide HB) b1)
            clear b1
            go_wp2_with fail
            refine (unhide HN2 _).mono ?_
            rintro e w2 ⟨rfl, b2⟩
            replace HB := hide (below_nx (unhide HB) b2)
            clear b2
            go_wp2_with fail
            refine (unhide HS _ ((unhide HE).below (unhide HB))).mono ?_
            rintro e w3 ⟨rfl, b3⟩
            replace HB := hide (below_nx (unhide HB) b3)
            clear b3
            go_wp2_with fail
            refine (unhide HN _).mono ?_
            rintro e w4 ⟨rfl, b4⟩
            replace HB := hide (below_nx (unhide HB) b4)
            clear b4
            go_wp2
            refine bodyPost_ret (results_tmp4 rfl _ _ _) rfl ?_
            exact ⟨_, _, _, by rw [unhide HO]; rfl, (fun _ => ⟨by rw [unhide FB], by rw [unhide FS]; rfl, by rw [unhide FP]; rfl⟩), unhide HB⟩
end Go.Proofs.YtlgmpoofcdkaeaaDoor
