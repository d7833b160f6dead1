/- The walks of the reference's name. -/
import Derived.Test.YtgoaefpkhjbkjaaGreatDoorLxY
import Derived.Test.YtgoaefpkhjbkjaaGreatDoorLxZ
import Derived.Test.YtgoaefpkhjbkjaaGreatDoorVrE
import Derived.Test.YtgoaefpkhjbkjaaGreatDoorAdT
import Derived.Deep.CutBlock
import Derived.Deep.CutRange
namespace Go.Proofs.YtgoaefpkhjbkjaaGreatDoor
open Go.RowKit

theorem let_run5 (c : UInt8) (h : isLet c = true) : inRunC c = true := let_run c h
theorem dg_run5 (c : UInt8) (h : isDg c = true) : inRunC c = true := dg_run c h
theorem drop_bl (l : List UInt8) (n k : Nat) (h1 : n ≤ k) (h2 : ((l.drop n).take (k - n)).all isBl = true) (h3 : k ≤ l.length) (h4 : (l.drop k).takeWhile isBl = []) : unbl (l.drop n) = l.drop k := by
  have e := tw_len isBl (l.drop n) (k - n) (by rw [List.length_drop]; omega) h2 (by rw [List.drop_drop, show n + (k - n) = k by omega]; exact h4)
  unfold unbl
  rw [e.2, List.drop_drop, show n + (k - n) = k by omega]
theorem take_bl (s : ByteArray) (n k : Nat) (h : n ≤ k) (hk : k < s.size) (c : UInt8) (hc : s[k] = c) : (s.data.toList.drop n).take (k + 1 - n) = (s.data.toList.drop n).take (k - n) ++ [c] := by
  have hk' : k < s.data.toList.length := hk
  rw [show k + 1 - n = (k - n) + 1 by omega, List.take_add_one, List.getElem?_drop, show n + (k - n) = k by omega, List.getElem?_eq_getElem hk']
  have : s.data.toList[k] = s[k] := rfl
  rw [this, hc]; rfl
set_option maxRecDepth 100000 in
set_option maxHeartbeats 8000000 in
theorem nr_called (s rb ub : ByteArray) (N : Nat) (w : World) (hs : s.size ≤ 1000) (hrb : Hid (s.extract 0 N = rb)) (HN : Hid ((runR s.data.toList).length = N)) (HCB : Hid ((true && callB s.data.toList) = true)) (HL : Hid (∀ (c : UInt8) w, Calls Tryz.prog 42 #[.int .u8 (c.toNat : Int)] w fun e w' => e = .returned (.bool (isLet c)) ∧ w' = w)) (HD : Hid (∀ (c : UInt8) w, Calls Tryz.prog 38 #[.int .u8 (c.toNat : Int)] w fun e w' => e = .returned (.bool (isDg c)) ∧ w' = w)) (HH : Hid (∀ (c : UInt8) w, Calls Tryz.prog 44 #[.string ⟨#[95, 36, 91, 93, 33, 58]⟩, .int .u8 (c.toNat : Int)] w fun e w' => e = .returned (.bool (runL.contains c)) ∧ w' = w)) (HNM : Hid (∀ w : World, Calls Tryz.prog 74 #[.string rb] w fun e w' => e = .returned (.bool true) ∧ w' = w)) (HU : Hid (∀ w : World, Calls Tryz.prog 75 #[.string rb] w fun e w' => e = .returned (.string ub) ∧ Below w.heap.size w w')) :
    Calls Tryz.prog 43 #[.string s] w fun e w' => e = .returned (.tuple #[.agg #[.int .i64 4, .string ub, .int .i64 0, .int .i64 0, .string ⟨#[]⟩, .string ⟨#[]⟩, .int .i64 0, .int .i64 0, .bool false, .bool false, .int .i64 0, .int .i64 0, .bool false, .bool false, .bool false, .int .i64 0], .int .i64 (N : Int), .int .i64 0]) ∧ Below w.heap.size w w' := by
  have hsz : s.data.toList.length = s.size := rfl
  have HS := hide hsz
  clear hsz
  have hNs : N ≤ s.size := by
    have := tk_len inRunC s.data.toList
    rw [unhide HS] at this
    have h2 := unhide HN
    unfold runR at h2
    omega
  go_enter Tryz.func43, Tryz.ntmps43
  go_upto_region 1 with fail
  have R := hide (cells_new w 47 #[.int .i64 0, .string ⟨#[]⟩, .int .i64 0, .int .i64 0, .string ⟨#[]⟩, .string ⟨#[]⟩, .int .i64 0, .int .i64 0, .bool false, .bool false, .int .i64 0, .int .i64 0, .bool false, .bool false, .bool false, .int .i64 0])
  have HB : Hid (Below w.heap.size w (w.alloc (.cells #[.int .i64 0, .string ⟨#[]⟩, .int .i64 0, .int .i64 0, .string ⟨#[]⟩, .string ⟨#[]⟩, .int .i64 0, .int .i64 0, .bool false, .bool false, .int .i64 0, .int .i64 0, .bool false, .bool false, .bool false, .int .i64 0] 47))) := hide (below_al _ _)
  generalize hW : w.alloc (.cells #[.int .i64 0, .string ⟨#[]⟩, .int .i64 0, .int .i64 0, .string ⟨#[]⟩, .string ⟨#[]⟩, .int .i64 0, .int .i64 0, .bool false, .bool false, .int .i64 0, .int .i64 0, .bool false, .bool false, .bool false, .int .i64 0] 47) = W0 at R HB ⊢
  clear hW
  go_upto_block 0 with fail
  go_cut [5, 6, 7, 8] from 15 to 42 (fun n a b c wx => n = .int .i64 (N : Int) ∧ wx = W0)
  case first =>
    go_wp2
    go_loop [5] (fun i => ∃ k : Nat, k ≤ s.size ∧ i = .int .i64 (k : Int) ∧ Hid ((s.data.toList.take k).all inRunC = true)) (fun i => s.size - (intOf i).toNat)
    case atStart => exact ⟨0, Nat.zero_le _, rfl, hide rfl⟩
    case round =>
      obtain ⟨k, hk, rfl, HT⟩ := hrel
      by_cases hlt : k < s.size
      · have HL1 := hide (unhide HL s[k])
        have HD1 := hide (unhide HD s[k])
        have HH1 := hide (unhide HH s[k])
        cases hg : inRunC s[k]
        · have hw := tw_here inRunC s k hlt hg
          have hkn : k = N := by
            have h1 := (tw_len inRunC s.data.toList k hk (unhide HT) hw).1
            have h2 := unhide HN
            unfold runR at h2
            rw [h1, List.length_take, unhide HS] at h2
            omega
          subst hkn
          have hp : isLet s[k] = false := by
            cases h : isLet s[k]
            · rfl
            · rw [let_run5 _ h] at hg; cases hg
          have hq : isDg s[k] = false := by
            cases h : isDg s[k]
            · rfl
            · rw [dg_run5 _ h] at hg; cases hg
          have hr : runL.contains s[k] = false := by
            unfold inRunC at hg
            rw [hp, hq] at hg
            simpa using hg
          clear hw hg
          rw [hp] at HL1
          rw [hq] at HD1
          rw [hr] at HH1
          go_wp2_with fail
          refine (unhide HL1 _).mono ?_
          rintro e w1 ⟨rfl, rfl⟩
          go_wp2_with fail
          refine (unhide HD1 _).mono ?_
          rintro e w1 ⟨rfl, rfl⟩
          go_wp2_with fail
          refine (unhide HH1 _).mono ?_
          rintro e w1 ⟨rfl, rfl⟩
          clear hp hq hr
          go_wp2
          go_meet
          case rel => exact ⟨rfl, rfl⟩
        · have hs' : Hid ((s.data.toList.take (k + 1)).all inRunC = true) := hide (by rw [take_snoc4 s k hlt, List.all_append, unhide HT, List.all_cons, hg]; rfl)
          generalize hp : isLet s[k] = p at HL1
          generalize hq : isDg s[k] = q at HD1
          generalize hr : runL.contains s[k] = r at HH1
          have hor : (p || q || r) = true := by rw [← hp, ← hq, ← hr]; exact hg
          clear hp hq hr hg
          cases p <;> cases q <;> cases r <;> first
            | exact absurd hor (by decide)
            | (clear hor
               go_wp2_with fail
               refine (unhide HL1 _).mono ?_
               rintro e w1 ⟨rfl, rfl⟩
               go_wp2_with fail
               refine (unhide HD1 _).mono ?_
               rintro e w1 ⟨rfl, rfl⟩
               go_wp2_with fail
               refine (unhide HH1 _).mono ?_
               rintro e w1 ⟨rfl, rfl⟩
               go_wp2
               go_round
               case rel => exact ⟨k + 1, by omega, by go_num, hs'⟩
               case measure => simp [intOf]; omega)
      · have hw : (s.data.toList.drop k).takeWhile inRunC = [] := by rw [List.drop_of_length_le (by rw [unhide HS]; omega)]; rfl
        have hkn : k = N := by
          have h1 := (tw_len inRunC s.data.toList k hk (unhide HT) hw).1
          have h2 := unhide HN
          unfold runR at h2
          rw [h1, List.length_take, unhide HS] at h2
          omega
        subst hkn
        clear hw
        go_wp2
        go_meet
        case rel => exact ⟨rfl, rfl⟩
  case rest =>
    obtain ⟨rfl, rfl⟩ := hcut
    have i1 : (0 : Int) ≤ (N : Int) := by omega
    have i2 : (N : Int) ≤ (s.size : Int) := by omega
    have hx := unhide hrb
    go_wp2_with fail
    refine (unhide HNM _).mono ?_
    rintro e wn ⟨rfl, rfl⟩
    clear hx
    go_upto_block 2 with fail
    go_cut [11] from 49 to 60 (fun n wx => (∃ K : Nat, n = .int .i64 (K : Int) ∧ N ≤ K ∧ K ≤ s.size ∧ Hid (unbl (s.data.toList.drop N) = s.data.toList.drop K)) ∧ wx = wn)
    case first =>
      go_wp2
      go_loop [11] (fun i => ∃ k : Nat, N ≤ k ∧ k ≤ s.size ∧ i = .int .i64 (k : Int) ∧ Hid (((s.data.toList.drop N).take (k - N)).all isBl = true)) (fun i => s.size - (intOf i).toNat)
      case atStart => exact ⟨N, Nat.le_refl _, hNs, rfl, hide (by rw [Nat.sub_self]; rfl)⟩
      case round =>
        obtain ⟨k, hk1, hk, rfl, HT⟩ := hrel
        by_cases hlt : k < s.size
        · have hq := byte_eq s[k] 32
          rw [show ((32 : UInt8).toNat : Int) = 32 from rfl] at hq
          cases h32 : ((s[k].toNat : Int) == 32)
          · rw [h32] at hq
            have HU0 := hide (drop_bl s.data.toList N k hk1 (unhide HT) (by rw [unhide HS]; exact hk) (tw_here isBl s k hlt hq))
            clear hq
            go_wp2
            go_meet
            case rel => exact ⟨⟨k, rfl, hk1, hk, HU0⟩, rfl⟩
          · rw [h32] at hq
            have hs' : Hid (((s.data.toList.drop N).take (k + 1 - N)).all isBl = true) := hide (by
              have e : s[k] = 32 := by simpa using hq
              rw [take_bl s N k hk1 hlt 32 e, List.all_append, unhide HT]; rfl)
            clear hq
            go_wp2
            go_round
            case rel => exact ⟨k + 1, by omega, by omega, by go_num, hs'⟩
            case measure => simp [intOf]; omega
        · have HU0 := hide (drop_bl s.data.toList N k hk1 (unhide HT) (by rw [unhide HS]; exact hk) (by rw [List.drop_of_length_le (by rw [unhide HS]; omega)]; rfl))
          go_wp2
          go_meet
          case rel => exact ⟨⟨k, rfl, hk1, hk, HU0⟩, rfl⟩
    case rest =>
      obtain ⟨⟨K, rfl, hK1, hK, HK⟩, rfl⟩ := hcut
      go_wp2_with fail
      refine (unhide HU _).mono ?_
      rintro e wu ⟨rfl, bu⟩
      replace R := hide (cells_nx (unhide R) bu)
      replace HB := hide (below_nx (unhide HB) bu)
      clear bu
      have HCL : Hid (((s.data.toList.drop K).head? == some 40) = true) := hide (by
        have h := unhide HCB
        rw [Bool.true_and] at h
        unfold callB at h
        rw [← unhide HK, ← h, ← tw_drop inRunC]
        rw [show (List.takeWhile inRunC s.data.toList).length = N from unhide HN])
      have hKl : K < s.size := by
        rcases Nat.lt_or_ge K s.size with h | h
        · exact h
        · have h2 := unhide HCL
          rw [List.drop_of_length_le (by rw [unhide HS]; exact h)] at h2
          cases h2
      have h40 : ((s[K].toNat : Int) == 40) = true := by
        have h2 := unhide HCL
        rw [head5_at s K hKl] at h2
        rw [← show ((40 : UInt8).toNat : Int) = 40 from rfl, ← byte_eq]
        simpa using h2
      obtain ⟨r_0, r_1, r_2, r_3, r_4, r_5, r_6, r_7, r_8, r_9, r_10, r_11, r_12, r_13, r_14, r_15⟩ := cells16 (unhide R)
      obtain ⟨fz_0, fz_1, fz_2, fz_3, fz_4, fz_5, fz_6, fz_7, fz_8, fz_9, fz_10, fz_11, fz_12, fz_13, fz_14, fz_15⟩ := frz16 (unhide R)
      go_wp2
      refine bodyPost_ret (results_c1tt rfl _ _ _ _ _ _ rfl (cells_set16 (unhide R) _ _ _ _ _ _ _ _ _ _ _ _ _ _ _ _) Tryz.underlying47 rfl (by exact infoRtk) _ rfl _ rfl) rfl ?_
      exact ⟨rfl, below_set16 (unhide HB) (Nat.le_refl _) _ _ _ _ _ _ _ _ _ _ _ _ _ _ _ _⟩
set_option maxRecDepth 100000 in
set_option maxHeartbeats 8000000 in
theorem nr_word (s rb ub : ByteArray) (N : Nat) (w : World) (hs : s.size ≤ 1000) (hrb : Hid (s.extract 0 N = rb)) (HN : Hid ((runR s.data.toList).length = N)) (HCB : Hid ((true && callB s.data.toList) = false)) (HL : Hid (∀ (c : UInt8) w, Calls Tryz.prog 42 #[.int .u8 (c.toNat : Int)] w fun e w' => e = .returned (.bool (isLet c)) ∧ w' = w)) (HD : Hid (∀ (c : UInt8) w, Calls Tryz.prog 38 #[.int .u8 (c.toNat : Int)] w fun e w' => e = .returned (.bool (isDg c)) ∧ w' = w)) (HH : Hid (∀ (c : UInt8) w, Calls Tryz.prog 44 #[.string ⟨#[95, 36, 91, 93, 33, 58]⟩, .int .u8 (c.toNat : Int)] w fun e w' => e = .returned (.bool (runL.contains c)) ∧ w' = w)) (HNM : Hid (∀ w : World, Calls Tryz.prog 74 #[.string rb] w fun e w' => e = .returned (.bool true) ∧ w' = w)) (HU : Hid (∀ w : World, Calls Tryz.prog 75 #[.string rb] w fun e w' => e = .returned (.string ub) ∧ Below w.heap.size w w')) (bk sh : ByteArray) (c1 r1 c2 r2 : Int) (f1 g1 f2 g2 wd : Bool)  (HF : Hid (∀ w : World, Calls Tryz.prog 76 #[.string rb] w fun e w' => e = .returned (.tuple #[.agg #[.string bk, .string sh, .int .i64 c1, .int .i64 r1, .bool f1, .bool g1, .int .i64 c2, .int .i64 r2, .bool f2, .bool g2, .bool wd], .int .i64 4]) ∧ Below w.heap.size w w')) :
    Calls Tryz.prog 43 #[.string s] w fun e w' => e = .returned (.tuple #[.agg #[.int .i64 4, .string ub, .int .i64 0, .int .i64 0, .string ⟨#[]⟩, .string ⟨#[]⟩, .int .i64 0, .int .i64 0, .bool false, .bool false, .int .i64 0, .int .i64 0, .bool false, .bool false, .bool false, .int .i64 0], .int .i64 (N : Int), .int .i64 0]) ∧ Below w.heap.size w w' := by
  have hsz : s.data.toList.length = s.size := rfl
  have HS := hide hsz
  clear hsz
  have hNs : N ≤ s.size := by
    have := tk_len inRunC s.data.toList
    rw [unhide HS] at this
    have h2 := unhide HN
    unfold runR at h2
    omega
  go_enter Tryz.func43, Tryz.ntmps43
  go_upto_region 1 with fail
  have R := hide (cells_new w 47 #[.int .i64 0, .string ⟨#[]⟩, .int .i64 0, .int .i64 0, .string ⟨#[]⟩, .string ⟨#[]⟩, .int .i64 0, .int .i64 0, .bool false, .bool false, .int .i64 0, .int .i64 0, .bool false, .bool false, .bool false, .int .i64 0])
  have HB : Hid (Below w.heap.size w (w.alloc (.cells #[.int .i64 0, .string ⟨#[]⟩, .int .i64 0, .int .i64 0, .string ⟨#[]⟩, .string ⟨#[]⟩, .int .i64 0, .int .i64 0, .bool false, .bool false, .int .i64 0, .int .i64 0, .bool false, .bool false, .bool false, .int .i64 0] 47))) := hide (below_al _ _)
  generalize hW : w.alloc (.cells #[.int .i64 0, .string ⟨#[]⟩, .int .i64 0, .int .i64 0, .string ⟨#[]⟩, .string ⟨#[]⟩, .int .i64 0, .int .i64 0, .bool false, .bool false, .int .i64 0, .int .i64 0, .bool false, .bool false, .bool false, .int .i64 0] 47) = W0 at R HB ⊢
  clear hW
  go_upto_block 0 with fail
  go_cut [5, 6, 7, 8] from 15 to 42 (fun n a b c wx => n = .int .i64 (N : Int) ∧ wx = W0)
  case first =>
    go_wp2
    go_loop [5] (fun i => ∃ k : Nat, k ≤ s.size ∧ i = .int .i64 (k : Int) ∧ Hid ((s.data.toList.take k).all inRunC = true)) (fun i => s.size - (intOf i).toNat)
    case atStart => exact ⟨0, Nat.zero_le _, rfl, hide rfl⟩
    case round =>
      obtain ⟨k, hk, rfl, HT⟩ := hrel
      by_cases hlt : k < s.size
      · have HL1 := hide (unhide HL s[k])
        have HD1 := hide (unhide HD s[k])
        have HH1 := hide (unhide HH s[k])
        cases hg : inRunC s[k]
        · have hw := tw_here inRunC s k hlt hg
          have hkn : k = N := by
            have h1 := (tw_len inRunC s.data.toList k hk (unhide HT) hw).1
            have h2 := unhide HN
            unfold runR at h2
            rw [h1, List.length_take, unhide HS] at h2
            omega
          subst hkn
          have hp : isLet s[k] = false := by
            cases h : isLet s[k]
            · rfl
            · rw [let_run5 _ h] at hg; cases hg
          have hq : isDg s[k] = false := by
            cases h : isDg s[k]
            · rfl
            · rw [dg_run5 _ h] at hg; cases hg
          have hr : runL.contains s[k] = false := by
            unfold inRunC at hg
            rw [hp, hq] at hg
            simpa using hg
          clear hw hg
          rw [hp] at HL1
          rw [hq] at HD1
          rw [hr] at HH1
          go_wp2_with fail
          refine (unhide HL1 _).mono ?_
          rintro e w1 ⟨rfl, rfl⟩
          go_wp2_with fail
          refine (unhide HD1 _).mono ?_
          rintro e w1 ⟨rfl, rfl⟩
          go_wp2_with fail
          refine (unhide HH1 _).mono ?_
          rintro e w1 ⟨rfl, rfl⟩
          clear hp hq hr
          go_wp2
          go_meet
          case rel => exact ⟨rfl, rfl⟩
        · have hs' : Hid ((s.data.toList.take (k + 1)).all inRunC = true) := hide (by rw [take_snoc4 s k hlt, List.all_append, unhide HT, List.all_cons, hg]; rfl)
          generalize hp : isLet s[k] = p at HL1
          generalize hq : isDg s[k] = q at HD1
          generalize hr : runL.contains s[k] = r at HH1
          have hor : (p || q || r) = true := by rw [← hp, ← hq, ← hr]; exact hg
          clear hp hq hr hg
          cases p <;> cases q <;> cases r <;> first
            | exact absurd hor (by decide)
            | (clear hor
               go_wp2_with fail
               refine (unhide HL1 _).mono ?_
               rintro e w1 ⟨rfl, rfl⟩
               go_wp2_with fail
               refine (unhide HD1 _).mono ?_
               rintro e w1 ⟨rfl, rfl⟩
               go_wp2_with fail
               refine (unhide HH1 _).mono ?_
               rintro e w1 ⟨rfl, rfl⟩
               go_wp2
               go_round
               case rel => exact ⟨k + 1, by omega, by go_num, hs'⟩
               case measure => simp [intOf]; omega)
      · have hw : (s.data.toList.drop k).takeWhile inRunC = [] := by rw [List.drop_of_length_le (by rw [unhide HS]; omega)]; rfl
        have hkn : k = N := by
          have h1 := (tw_len inRunC s.data.toList k hk (unhide HT) hw).1
          have h2 := unhide HN
          unfold runR at h2
          rw [h1, List.length_take, unhide HS] at h2
          omega
        subst hkn
        clear hw
        go_wp2
        go_meet
        case rel => exact ⟨rfl, rfl⟩
  case rest =>
    obtain ⟨rfl, rfl⟩ := hcut
    have i1 : (0 : Int) ≤ (N : Int) := by omega
    have i2 : (N : Int) ≤ (s.size : Int) := by omega
    have hx := unhide hrb
    go_wp2_with fail
    refine (unhide HNM _).mono ?_
    rintro e wn ⟨rfl, rfl⟩
    clear hx
    go_upto_block 2 with fail
    go_cut [11] from 49 to 60 (fun n wx => (∃ K : Nat, n = .int .i64 (K : Int) ∧ N ≤ K ∧ K ≤ s.size ∧ Hid (unbl (s.data.toList.drop N) = s.data.toList.drop K)) ∧ wx = wn)
    case first =>
      go_wp2
      go_loop [11] (fun i => ∃ k : Nat, N ≤ k ∧ k ≤ s.size ∧ i = .int .i64 (k : Int) ∧ Hid (((s.data.toList.drop N).take (k - N)).all isBl = true)) (fun i => s.size - (intOf i).toNat)
      case atStart => exact ⟨N, Nat.le_refl _, hNs, rfl, hide (by rw [Nat.sub_self]; rfl)⟩
      case round =>
        obtain ⟨k, hk1, hk, rfl, HT⟩ := hrel
        by_cases hlt : k < s.size
        · have hq := byte_eq s[k] 32
          rw [show ((32 : UInt8).toNat : Int) = 32 from rfl] at hq
          cases h32 : ((s[k].toNat : Int) == 32)
          · rw [h32] at hq
            have HU0 := hide (drop_bl s.data.toList N k hk1 (unhide HT) (by rw [unhide HS]; exact hk) (tw_here isBl s k hlt hq))
            clear hq
            go_wp2
            go_meet
            case rel => exact ⟨⟨k, rfl, hk1, hk, HU0⟩, rfl⟩
          · rw [h32] at hq
            have hs' : Hid (((s.data.toList.drop N).take (k + 1 - N)).all isBl = true) := hide (by
              have e : s[k] = 32 := by simpa using hq
              rw [take_bl s N k hk1 hlt 32 e, List.all_append, unhide HT]; rfl)
            clear hq
            go_wp2
            go_round
            case rel => exact ⟨k + 1, by omega, by omega, by go_num, hs'⟩
            case measure => simp [intOf]; omega
        · have HU0 := hide (drop_bl s.data.toList N k hk1 (unhide HT) (by rw [unhide HS]; exact hk) (by rw [List.drop_of_length_le (by rw [unhide HS]; omega)]; rfl))
          go_wp2
          go_meet
          case rel => exact ⟨⟨k, rfl, hk1, hk, HU0⟩, rfl⟩
    case rest =>
      obtain ⟨⟨K, rfl, hK1, hK, HK⟩, rfl⟩ := hcut
      go_wp2_with fail
      refine (unhide HU _).mono ?_
      rintro e wu ⟨rfl, bu⟩
      replace R := hide (cells_nx (unhide R) bu)
      replace HB := hide (below_nx (unhide HB) bu)
      clear bu
      have HCL : Hid (((s.data.toList.drop K).head? == some 40) = false) := hide (by
        have h := unhide HCB
        rw [Bool.true_and] at h
        unfold callB at h
        rw [← unhide HK, ← h, ← tw_drop inRunC]
        rw [show (List.takeWhile inRunC s.data.toList).length = N from unhide HN])
      go_upto_region 14 with fail
      go_cut [75] from 63 to 74 (fun v wx => v = .bool false ∧ wx = wu)
      case first =>
        by_cases hKl : K < s.size
        · have h40 : ((s[K].toNat : Int) == 40) = false := by
            have h2 := unhide HCL
            rw [head5_at s K hKl] at h2
            rw [← show ((40 : UInt8).toNat : Int) = 40 from rfl, ← byte_eq]
            simpa using h2
          go_wp2
          go_meet
          case rel => exact ⟨rfl, rfl⟩
        · go_wp2
          go_meet
          case rel => exact ⟨rfl, rfl⟩
      case rest =>
        obtain ⟨rfl, rfl⟩ := hcut
        go_wp2_with fail
        refine (unhide HF _).mono ?_
        rintro e wp ⟨rfl, bp⟩
        replace R := hide (cells_nx (unhide R) bp)
        replace HB := hide (below_nx (unhide HB) bp)
        clear bp
        have hlt2 := cells_lt (unhide R)
        go_upto_region 17 with fail
        have G := hide (cells_new wp 45 #[.string bk, .string sh, .int .i64 c1, .int .i64 r1, .bool f1, .bool g1, .int .i64 c2, .int .i64 r2, .bool f2, .bool g2, .bool wd])
        replace R := hide (cells_al (unhide R) (.cells #[.string bk, .string sh, .int .i64 c1, .int .i64 r1, .bool f1, .bool g1, .int .i64 c2, .int .i64 r2, .bool f2, .bool g2, .bool wd] 45))
        replace HB := hide ((unhide HB).alloc (unhide HB).size (.cells #[.string bk, .string sh, .int .i64 c1, .int .i64 r1, .bool f1, .bool g1, .int .i64 c2, .int .i64 r2, .bool f2, .bool g2, .bool wd] 45))
        have hne2 : w.heap.size ≠ wp.heap.size := by omega
        clear hlt2
        generalize hW : wp.alloc (.cells #[.string bk, .string sh, .int .i64 c1, .int .i64 r1, .bool f1, .bool g1, .int .i64 c2, .int .i64 r2, .bool f2, .bool g2, .bool wd] 45) = W2 at R G HB ⊢
        clear hW
        obtain ⟨r_0, r_1, r_2, r_3, r_4, r_5, r_6, r_7, r_8, r_9, r_10, r_11, r_12, r_13, r_14, r_15⟩ := cells16 (unhide R)
        obtain ⟨fz_0, fz_1, fz_2, fz_3, fz_4, fz_5, fz_6, fz_7, fz_8, fz_9, fz_10, fz_11, fz_12, fz_13, fz_14, fz_15⟩ := frz16 (unhide R)
        go_wp2
        refine bodyPost_ret (results_c1tt rfl _ _ _ _ _ _ rfl (cells_set16 (unhide R) _ _ _ _ _ _ _ _ _ _ _ _ _ _ _ _) Tryz.underlying47 rfl (by exact infoRtk) _ rfl _ rfl) rfl ?_
        exact ⟨rfl, below_set16 (unhide HB) (Nat.le_refl _) _ _ _ _ _ _ _ _ _ _ _ _ _ _ _ _⟩
end Go.Proofs.YtgoaefpkhjbkjaaGreatDoor

namespace Go.Proofs.YtgoaefpkhjbkjaaGreatDoor
open Go.RowKit

set_option maxRecDepth 100000 in
set_option maxHeartbeats 8000000 in
theorem nr_ref (is : Bool) (s rb ub : ByteArray) (N : Nat) (w : World) (hs : s.size ≤ 1000) (hrb : Hid (s.extract 0 N = rb)) (HN : Hid ((runR s.data.toList).length = N)) (HCB : Hid ((is && callB s.data.toList) = false)) (HL : Hid (∀ (c : UInt8) w, Calls Tryz.prog 42 #[.int .u8 (c.toNat : Int)] w fun e w' => e = .returned (.bool (isLet c)) ∧ w' = w)) (HD : Hid (∀ (c : UInt8) w, Calls Tryz.prog 38 #[.int .u8 (c.toNat : Int)] w fun e w' => e = .returned (.bool (isDg c)) ∧ w' = w)) (HH : Hid (∀ (c : UInt8) w, Calls Tryz.prog 44 #[.string ⟨#[95, 36, 91, 93, 33, 58]⟩, .int .u8 (c.toNat : Int)] w fun e w' => e = .returned (.bool (runL.contains c)) ∧ w' = w)) (HNM : Hid (∀ w : World, Calls Tryz.prog 74 #[.string rb] w fun e w' => e = .returned (.bool is) ∧ w' = w)) (HU : Hid (∀ w : World, Calls Tryz.prog 75 #[.string rb] w fun e w' => e = .returned (.string ub) ∧ Below w.heap.size w w')) (bk sh : ByteArray) (c1 r1 c2 r2 : Int) (f1 g1 f2 g2 wd : Bool)  (HF : Hid (∀ w : World, Calls Tryz.prog 76 #[.string rb] w fun e w' => e = .returned (.tuple #[.agg #[.string bk, .string sh, .int .i64 c1, .int .i64 r1, .bool f1, .bool g1, .int .i64 c2, .int .i64 r2, .bool f2, .bool g2, .bool wd], .int .i64 0]) ∧ Below w.heap.size w w')) :
    Calls Tryz.prog 43 #[.string s] w fun e w' => e = .returned (.tuple #[.agg #[.int .i64 3, .string ⟨#[]⟩, .int .i64 0, .int .i64 0, .string bk, .string sh, .int .i64 c1, .int .i64 r1, .bool f1, .bool g1, .int .i64 c2, .int .i64 r2, .bool f2, .bool g2, .bool wd, .int .i64 0], .int .i64 (N : Int), .int .i64 0]) ∧ Below w.heap.size w w' := by
  have hsz : s.data.toList.length = s.size := rfl
  have HS := hide hsz
  clear hsz
  have hNs : N ≤ s.size := by
    have := tk_len inRunC s.data.toList
    rw [unhide HS] at this
    have h2 := unhide HN
    unfold runR at h2
    omega
  go_enter Tryz.func43, Tryz.ntmps43
  go_upto_region 1 with fail
  have R := hide (cells_new w 47 #[.int .i64 0, .string ⟨#[]⟩, .int .i64 0, .int .i64 0, .string ⟨#[]⟩, .string ⟨#[]⟩, .int .i64 0, .int .i64 0, .bool false, .bool false, .int .i64 0, .int .i64 0, .bool false, .bool false, .bool false, .int .i64 0])
  have HB : Hid (Below w.heap.size w (w.alloc (.cells #[.int .i64 0, .string ⟨#[]⟩, .int .i64 0, .int .i64 0, .string ⟨#[]⟩, .string ⟨#[]⟩, .int .i64 0, .int .i64 0, .bool false, .bool false, .int .i64 0, .int .i64 0, .bool false, .bool false, .bool false, .int .i64 0] 47))) := hide (below_al _ _)
  generalize hW : w.alloc (.cells #[.int .i64 0, .string ⟨#[]⟩, .int .i64 0, .int .i64 0, .string ⟨#[]⟩, .string ⟨#[]⟩, .int .i64 0, .int .i64 0, .bool false, .bool false, .int .i64 0, .int .i64 0, .bool false, .bool false, .bool false, .int .i64 0] 47) = W0 at R HB ⊢
  clear hW
  go_upto_block 0 with fail
  go_cut [5, 6, 7, 8] from 15 to 42 (fun n a b c wx => n = .int .i64 (N : Int) ∧ wx = W0)
  case first =>
    go_wp2
    go_loop [5] (fun i => ∃ k : Nat, k ≤ s.size ∧ i = .int .i64 (k : Int) ∧ Hid ((s.data.toList.take k).all inRunC = true)) (fun i => s.size - (intOf i).toNat)
    case atStart => exact ⟨0, Nat.zero_le _, rfl, hide rfl⟩
    case round =>
      obtain ⟨k, hk, rfl, HT⟩ := hrel
      by_cases hlt : k < s.size
      · have HL1 := hide (unhide HL s[k])
        have HD1 := hide (unhide HD s[k])
        have HH1 := hide (unhide HH s[k])
        cases hg : inRunC s[k]
        · have hw := tw_here inRunC s k hlt hg
          have hkn : k = N := by
            have h1 := (tw_len inRunC s.data.toList k hk (unhide HT) hw).1
            have h2 := unhide HN
            unfold runR at h2
            rw [h1, List.length_take, unhide HS] at h2
            omega
          subst hkn
          have hp : isLet s[k] = false := by
            cases h : isLet s[k]
            · rfl
            · rw [let_run5 _ h] at hg; cases hg
          have hq : isDg s[k] = false := by
            cases h : isDg s[k]
            · rfl
            · rw [dg_run5 _ h] at hg; cases hg
          have hr : runL.contains s[k] = false := by
            unfold inRunC at hg
            rw [hp, hq] at hg
            simpa using hg
          clear hw hg
          rw [hp] at HL1
          rw [hq] at HD1
          rw [hr] at HH1
          go_wp2_with fail
          refine (unhide HL1 _).mono ?_
          rintro e w1 ⟨rfl, rfl⟩
          go_wp2_with fail
          refine (unhide HD1 _).mono ?_
          rintro e w1 ⟨rfl, rfl⟩
          go_wp2_with fail
          refine (unhide HH1 _).mono ?_
          rintro e w1 ⟨rfl, rfl⟩
          clear hp hq hr
          go_wp2
          go_meet
          case rel => exact ⟨rfl, rfl⟩
        · have hs' : Hid ((s.data.toList.take (k + 1)).all inRunC = true) := hide (by rw [take_snoc4 s k hlt, List.all_append, unhide HT, List.all_cons, hg]; rfl)
          generalize hp : isLet s[k] = p at HL1
          generalize hq : isDg s[k] = q at HD1
          generalize hr : runL.contains s[k] = r at HH1
          have hor : (p || q || r) = true := by rw [← hp, ← hq, ← hr]; exact hg
          clear hp hq hr hg
          cases p <;> cases q <;> cases r <;> first
            | exact absurd hor (by decide)
            | (clear hor
               go_wp2_with fail
               refine (unhide HL1 _).mono ?_
               rintro e w1 ⟨rfl, rfl⟩
               go_wp2_with fail
               refine (unhide HD1 _).mono ?_
               rintro e w1 ⟨rfl, rfl⟩
               go_wp2_with fail
               refine (unhide HH1 _).mono ?_
               rintro e w1 ⟨rfl, rfl⟩
               go_wp2
               go_round
               case rel => exact ⟨k + 1, by omega, by go_num, hs'⟩
               case measure => simp [intOf]; omega)
      · have hw : (s.data.toList.drop k).takeWhile inRunC = [] := by rw [List.drop_of_length_le (by rw [unhide HS]; omega)]; rfl
        have hkn : k = N := by
          have h1 := (tw_len inRunC s.data.toList k hk (unhide HT) hw).1
          have h2 := unhide HN
          unfold runR at h2
          rw [h1, List.length_take, unhide HS] at h2
          omega
        subst hkn
        clear hw
        go_wp2
        go_meet
        case rel => exact ⟨rfl, rfl⟩
  case rest =>
    obtain ⟨rfl, rfl⟩ := hcut
    have i1 : (0 : Int) ≤ (N : Int) := by omega
    have i2 : (N : Int) ≤ (s.size : Int) := by omega
    have hx := unhide hrb
    go_wp2_with fail
    refine (unhide HNM _).mono ?_
    rintro e wn ⟨rfl, rfl⟩
    clear hx
    go_upto_block 2 with fail
    go_cut [11] from 49 to 60 (fun n wx => (∃ K : Nat, n = .int .i64 (K : Int) ∧ N ≤ K ∧ K ≤ s.size ∧ Hid (unbl (s.data.toList.drop N) = s.data.toList.drop K)) ∧ wx = wn)
    case first =>
      go_wp2
      go_loop [11] (fun i => ∃ k : Nat, N ≤ k ∧ k ≤ s.size ∧ i = .int .i64 (k : Int) ∧ Hid (((s.data.toList.drop N).take (k - N)).all isBl = true)) (fun i => s.size - (intOf i).toNat)
      case atStart => exact ⟨N, Nat.le_refl _, hNs, rfl, hide (by rw [Nat.sub_self]; rfl)⟩
      case round =>
        obtain ⟨k, hk1, hk, rfl, HT⟩ := hrel
        by_cases hlt : k < s.size
        · have hq := byte_eq s[k] 32
          rw [show ((32 : UInt8).toNat : Int) = 32 from rfl] at hq
          cases h32 : ((s[k].toNat : Int) == 32)
          · rw [h32] at hq
            have HU0 := hide (drop_bl s.data.toList N k hk1 (unhide HT) (by rw [unhide HS]; exact hk) (tw_here isBl s k hlt hq))
            clear hq
            go_wp2
            go_meet
            case rel => exact ⟨⟨k, rfl, hk1, hk, HU0⟩, rfl⟩
          · rw [h32] at hq
            have hs' : Hid (((s.data.toList.drop N).take (k + 1 - N)).all isBl = true) := hide (by
              have e : s[k] = 32 := by simpa using hq
              rw [take_bl s N k hk1 hlt 32 e, List.all_append, unhide HT]; rfl)
            clear hq
            go_wp2
            go_round
            case rel => exact ⟨k + 1, by omega, by omega, by go_num, hs'⟩
            case measure => simp [intOf]; omega
        · have HU0 := hide (drop_bl s.data.toList N k hk1 (unhide HT) (by rw [unhide HS]; exact hk) (by rw [List.drop_of_length_le (by rw [unhide HS]; omega)]; rfl))
          go_wp2
          go_meet
          case rel => exact ⟨⟨k, rfl, hk1, hk, HU0⟩, rfl⟩
    case rest =>
      obtain ⟨⟨K, rfl, hK1, hK, HK⟩, rfl⟩ := hcut
      go_wp2_with fail
      refine (unhide HU _).mono ?_
      rintro e wu ⟨rfl, bu⟩
      replace R := hide (cells_nx (unhide R) bu)
      replace HB := hide (below_nx (unhide HB) bu)
      clear bu
      go_upto_region 14 with fail
      go_cut [75] from 63 to 74 (fun v wx => v = .bool false ∧ wx = wu)
      case first =>
        cases is
        · go_wp2
          go_meet
          case rel => exact ⟨rfl, rfl⟩
        · have HCL : Hid (((s.data.toList.drop K).head? == some 40) = false) := hide (by
            have h := unhide HCB
            rw [Bool.true_and] at h
            unfold callB at h
            rw [← unhide HK, ← h, ← tw_drop inRunC]
            rw [show (List.takeWhile inRunC s.data.toList).length = N from unhide HN])
          by_cases hKl : K < s.size
          · have h40 : ((s[K].toNat : Int) == 40) = false := by
              have h2 := unhide HCL
              rw [head5_at s K hKl] at h2
              rw [← show ((40 : UInt8).toNat : Int) = 40 from rfl, ← byte_eq]
              simpa using h2
            go_wp2
            go_meet
            case rel => exact ⟨rfl, rfl⟩
          · go_wp2
            go_meet
            case rel => exact ⟨rfl, rfl⟩
      case rest =>
        obtain ⟨rfl, rfl⟩ := hcut
        go_wp2_with fail
        refine (unhide HF _).mono ?_
        rintro e wp ⟨rfl, bp⟩
        replace R := hide (cells_nx (unhide R) bp)
        replace HB := hide (below_nx (unhide HB) bp)
        clear bp
        have hlt2 := cells_lt (unhide R)
        go_upto_region 17 with fail
        have G := hide (cells_new wp 45 #[.string bk, .string sh, .int .i64 c1, .int .i64 r1, .bool f1, .bool g1, .int .i64 c2, .int .i64 r2, .bool f2, .bool g2, .bool wd])
        replace R := hide (cells_al (unhide R) (.cells #[.string bk, .string sh, .int .i64 c1, .int .i64 r1, .bool f1, .bool g1, .int .i64 c2, .int .i64 r2, .bool f2, .bool g2, .bool wd] 45))
        replace HB := hide ((unhide HB).alloc (unhide HB).size (.cells #[.string bk, .string sh, .int .i64 c1, .int .i64 r1, .bool f1, .bool g1, .int .i64 c2, .int .i64 r2, .bool f2, .bool g2, .bool wd] 45))
        have hne2 : w.heap.size ≠ wp.heap.size := by omega
        clear hlt2
        generalize hW : wp.alloc (.cells #[.string bk, .string sh, .int .i64 c1, .int .i64 r1, .bool f1, .bool g1, .int .i64 c2, .int .i64 r2, .bool f2, .bool g2, .bool wd] 45) = W2 at R G HB ⊢
        clear hW
        obtain ⟨g_0, g_1, g_2, g_3, g_4, g_5, g_6, g_7, g_8, g_9, g_10⟩ := cells11 (unhide G)
        obtain ⟨r_0, r_1, r_2, r_3, r_4, r_5, r_6, r_7, r_8, r_9, r_10, r_11, r_12, r_13, r_14, r_15⟩ := cells16 (unhide R)
        obtain ⟨fz_0, fz_1, fz_2, fz_3, fz_4, fz_5, fz_6, fz_7, fz_8, fz_9, fz_10, fz_11, fz_12, fz_13, fz_14, fz_15⟩ := frz16 (unhide R)
        go_wp2
        refine bodyPost_ret (results_c1tt rfl _ _ _ _ _ _ rfl (cells_set16 (unhide R) _ _ _ _ _ _ _ _ _ _ _ _ _ _ _ _) Tryz.underlying47 rfl (by exact infoRtk) _ rfl _ rfl) rfl ?_
        exact ⟨rfl, below_set16 (unhide HB) (Nat.le_refl _) _ _ _ _ _ _ _ _ _ _ _ _ _ _ _ _⟩
set_option maxRecDepth 100000 in
set_option maxHeartbeats 8000000 in
theorem nr_form (s rb ub : ByteArray) (N : Nat) (w : World) (hs : s.size ≤ 1000) (hrb : Hid (s.extract 0 N = rb)) (HN : Hid ((runR s.data.toList).length = N)) (HL : Hid (∀ (c : UInt8) w, Calls Tryz.prog 42 #[.int .u8 (c.toNat : Int)] w fun e w' => e = .returned (.bool (isLet c)) ∧ w' = w)) (HD : Hid (∀ (c : UInt8) w, Calls Tryz.prog 38 #[.int .u8 (c.toNat : Int)] w fun e w' => e = .returned (.bool (isDg c)) ∧ w' = w)) (HH : Hid (∀ (c : UInt8) w, Calls Tryz.prog 44 #[.string ⟨#[95, 36, 91, 93, 33, 58]⟩, .int .u8 (c.toNat : Int)] w fun e w' => e = .returned (.bool (runL.contains c)) ∧ w' = w)) (HNM : Hid (∀ w : World, Calls Tryz.prog 74 #[.string rb] w fun e w' => e = .returned (.bool false) ∧ w' = w)) (HU : Hid (∀ w : World, Calls Tryz.prog 75 #[.string rb] w fun e w' => e = .returned (.string ub) ∧ Below w.heap.size w w')) (bk sh : ByteArray) (c1 r1 c2 r2 : Int) (f1 g1 f2 g2 wd : Bool)  (HF : Hid (∀ w : World, Calls Tryz.prog 76 #[.string rb] w fun e w' => e = .returned (.tuple #[.agg #[.string bk, .string sh, .int .i64 c1, .int .i64 r1, .bool f1, .bool g1, .int .i64 c2, .int .i64 r2, .bool f2, .bool g2, .bool wd], .int .i64 4]) ∧ Below w.heap.size w w')) :
    Calls Tryz.prog 43 #[.string s] w fun e w' => e = .returned (.tuple #[.agg #[.int .i64 0, .string ⟨#[]⟩, .int .i64 0, .int .i64 0, .string ⟨#[]⟩, .string ⟨#[]⟩, .int .i64 0, .int .i64 0, .bool false, .bool false, .int .i64 0, .int .i64 0, .bool false, .bool false, .bool false, .int .i64 0], .int .i64 0, .int .i64 4]) ∧ Below w.heap.size w w' := by
  have hsz : s.data.toList.length = s.size := rfl
  have HS := hide hsz
  clear hsz
  have hNs : N ≤ s.size := by
    have := tk_len inRunC s.data.toList
    rw [unhide HS] at this
    have h2 := unhide HN
    unfold runR at h2
    omega
  go_enter Tryz.func43, Tryz.ntmps43
  go_upto_region 1 with fail
  have R := hide (cells_new w 47 #[.int .i64 0, .string ⟨#[]⟩, .int .i64 0, .int .i64 0, .string ⟨#[]⟩, .string ⟨#[]⟩, .int .i64 0, .int .i64 0, .bool false, .bool false, .int .i64 0, .int .i64 0, .bool false, .bool false, .bool false, .int .i64 0])
  have HB : Hid (Below w.heap.size w (w.alloc (.cells #[.int .i64 0, .string ⟨#[]⟩, .int .i64 0, .int .i64 0, .string ⟨#[]⟩, .string ⟨#[]⟩, .int .i64 0, .int .i64 0, .bool false, .bool false, .int .i64 0, .int .i64 0, .bool false, .bool false, .bool false, .int .i64 0] 47))) := hide (below_al _ _)
  generalize hW : w.alloc (.cells #[.int .i64 0, .string ⟨#[]⟩, .int .i64 0, .int .i64 0, .string ⟨#[]⟩, .string ⟨#[]⟩, .int .i64 0, .int .i64 0, .bool false, .bool false, .int .i64 0, .int .i64 0, .bool false, .bool false, .bool false, .int .i64 0] 47) = W0 at R HB ⊢
  clear hW
  go_upto_block 0 with fail
  go_cut [5, 6, 7, 8] from 15 to 42 (fun n a b c wx => n = .int .i64 (N : Int) ∧ wx = W0)
  case first =>
    go_wp2
    go_loop [5] (fun i => ∃ k : Nat, k ≤ s.size ∧ i = .int .i64 (k : Int) ∧ Hid ((s.data.toList.take k).all inRunC = true)) (fun i => s.size - (intOf i).toNat)
    case atStart => exact ⟨0, Nat.zero_le _, rfl, hide rfl⟩
    case round =>
      obtain ⟨k, hk, rfl, HT⟩ := hrel
      by_cases hlt : k < s.size
      · have HL1 := hide (unhide HL s[k])
        have HD1 := hide (unhide HD s[k])
        have HH1 := hide (unhide HH s[k])
        cases hg : inRunC s[k]
        · have hw := tw_here inRunC s k hlt hg
          have hkn : k = N := by
            have h1 := (tw_len inRunC s.data.toList k hk (unhide HT) hw).1
            have h2 := unhide HN
            unfold runR at h2
            rw [h1, List.length_take, unhide HS] at h2
            omega
          subst hkn
          have hp : isLet s[k] = false := by
            cases h : isLet s[k]
            · rfl
            · rw [let_run5 _ h] at hg; cases hg
          have hq : isDg s[k] = false := by
            cases h : isDg s[k]
            · rfl
            · rw [dg_run5 _ h] at hg; cases hg
          have hr : runL.contains s[k] = false := by
            unfold inRunC at hg
            rw [hp, hq] at hg
            simpa using hg
          clear hw hg
          rw [hp] at HL1
          rw [hq] at HD1
          rw [hr] at HH1
          go_wp2_with fail
          refine (unhide HL1 _).mono ?_
          rintro e w1 ⟨rfl, rfl⟩
          go_wp2_with fail
          refine (unhide HD1 _).mono ?_
          rintro e w1 ⟨rfl, rfl⟩
          go_wp2_with fail
          refine (unhide HH1 _).mono ?_
          rintro e w1 ⟨rfl, rfl⟩
          clear hp hq hr
          go_wp2
          go_meet
          case rel => exact ⟨rfl, rfl⟩
        · have hs' : Hid ((s.data.toList.take (k + 1)).all inRunC = true) := hide (by rw [take_snoc4 s k hlt, List.all_append, unhide HT, List.all_cons, hg]; rfl)
          generalize hp : isLet s[k] = p at HL1
          generalize hq : isDg s[k] = q at HD1
          generalize hr : runL.contains s[k] = r at HH1
          have hor : (p || q || r) = true := by rw [← hp, ← hq, ← hr]; exact hg
          clear hp hq hr hg
          cases p <;> cases q <;> cases r <;> first
            | exact absurd hor (by decide)
            | (clear hor
               go_wp2_with fail
               refine (unhide HL1 _).mono ?_
               rintro e w1 ⟨rfl, rfl⟩
               go_wp2_with fail
               refine (unhide HD1 _).mono ?_
               rintro e w1 ⟨rfl, rfl⟩
               go_wp2_with fail
               refine (unhide HH1 _).mono ?_
               rintro e w1 ⟨rfl, rfl⟩
               go_wp2
               go_round
               case rel => exact ⟨k + 1, by omega, by go_num, hs'⟩
               case measure => simp [intOf]; omega)
      · have hw : (s.data.toList.drop k).takeWhile inRunC = [] := by rw [List.drop_of_length_le (by rw [unhide HS]; omega)]; rfl
        have hkn : k = N := by
          have h1 := (tw_len inRunC s.data.toList k hk (unhide HT) hw).1
          have h2 := unhide HN
          unfold runR at h2
          rw [h1, List.length_take, unhide HS] at h2
          omega
        subst hkn
        clear hw
        go_wp2
        go_meet
        case rel => exact ⟨rfl, rfl⟩
  case rest =>
    obtain ⟨rfl, rfl⟩ := hcut
    have i1 : (0 : Int) ≤ (N : Int) := by omega
    have i2 : (N : Int) ≤ (s.size : Int) := by omega
    have hx := unhide hrb
    go_wp2_with fail
    refine (unhide HNM _).mono ?_
    rintro e wn ⟨rfl, rfl⟩
    clear hx
    go_upto_block 2 with fail
    go_cut [11] from 49 to 60 (fun n wx => (∃ K : Nat, n = .int .i64 (K : Int) ∧ N ≤ K ∧ K ≤ s.size ∧ Hid (unbl (s.data.toList.drop N) = s.data.toList.drop K)) ∧ wx = wn)
    case first =>
      go_wp2
      go_loop [11] (fun i => ∃ k : Nat, N ≤ k ∧ k ≤ s.size ∧ i = .int .i64 (k : Int) ∧ Hid (((s.data.toList.drop N).take (k - N)).all isBl = true)) (fun i => s.size - (intOf i).toNat)
      case atStart => exact ⟨N, Nat.le_refl _, hNs, rfl, hide (by rw [Nat.sub_self]; rfl)⟩
      case round =>
        obtain ⟨k, hk1, hk, rfl, HT⟩ := hrel
        by_cases hlt : k < s.size
        · have hq := byte_eq s[k] 32
          rw [show ((32 : UInt8).toNat : Int) = 32 from rfl] at hq
          cases h32 : ((s[k].toNat : Int) == 32)
          · rw [h32] at hq
            have HU0 := hide (drop_bl s.data.toList N k hk1 (unhide HT) (by rw [unhide HS]; exact hk) (tw_here isBl s k hlt hq))
            clear hq
            go_wp2
            go_meet
            case rel => exact ⟨⟨k, rfl, hk1, hk, HU0⟩, rfl⟩
          · rw [h32] at hq
            have hs' : Hid (((s.data.toList.drop N).take (k + 1 - N)).all isBl = true) := hide (by
              have e : s[k] = 32 := by simpa using hq
              rw [take_bl s N k hk1 hlt 32 e, List.all_append, unhide HT]; rfl)
            clear hq
            go_wp2
            go_round
            case rel => exact ⟨k + 1, by omega, by omega, by go_num, hs'⟩
            case measure => simp [intOf]; omega
        · have HU0 := hide (drop_bl s.data.toList N k hk1 (unhide HT) (by rw [unhide HS]; exact hk) (by rw [List.drop_of_length_le (by rw [unhide HS]; omega)]; rfl))
          go_wp2
          go_meet
          case rel => exact ⟨⟨k, rfl, hk1, hk, HU0⟩, rfl⟩
    case rest =>
      obtain ⟨⟨K, rfl, hK1, hK, HK⟩, rfl⟩ := hcut
      go_wp2_with fail
      refine (unhide HU _).mono ?_
      rintro e wu ⟨rfl, bu⟩
      replace R := hide (cells_nx (unhide R) bu)
      replace HB := hide (below_nx (unhide HB) bu)
      clear bu
      go_wp2_with fail
      refine (unhide HF _).mono ?_
      rintro e wp ⟨rfl, bp⟩
      replace R := hide (cells_nx (unhide R) bp)
      replace HB := hide (below_nx (unhide HB) bp)
      clear bp
      have hlt2 := cells_lt (unhide R)
      go_upto_region 17 with fail
      have G := hide (cells_new wp 45 #[.string bk, .string sh, .int .i64 c1, .int .i64 r1, .bool f1, .bool g1, .int .i64 c2, .int .i64 r2, .bool f2, .bool g2, .bool wd])
      replace R := hide (cells_al (unhide R) (.cells #[.string bk, .string sh, .int .i64 c1, .int .i64 r1, .bool f1, .bool g1, .int .i64 c2, .int .i64 r2, .bool f2, .bool g2, .bool wd] 45))
      replace HB := hide ((unhide HB).alloc (unhide HB).size (.cells #[.string bk, .string sh, .int .i64 c1, .int .i64 r1, .bool f1, .bool g1, .int .i64 c2, .int .i64 r2, .bool f2, .bool g2, .bool wd] 45))
      have hne2 : w.heap.size ≠ wp.heap.size := by omega
      clear hlt2
      generalize hW : wp.alloc (.cells #[.string bk, .string sh, .int .i64 c1, .int .i64 r1, .bool f1, .bool g1, .int .i64 c2, .int .i64 r2, .bool f2, .bool g2, .bool wd] 45) = W2 at R G HB ⊢
      clear hW
      obtain ⟨r_0, r_1, r_2, r_3, r_4, r_5, r_6, r_7, r_8, r_9, r_10, r_11, r_12, r_13, r_14, r_15⟩ := cells16 (unhide R)
      obtain ⟨fz_0, fz_1, fz_2, fz_3, fz_4, fz_5, fz_6, fz_7, fz_8, fz_9, fz_10, fz_11, fz_12, fz_13, fz_14, fz_15⟩ := frz16 (unhide R)
      go_wp2
      refine bodyPost_ret (results_c1tt rfl _ _ _ _ _ _ rfl (cells_set16 (unhide R) _ _ _ _ _ _ _ _ _ _ _ _ _ _ _ _) Tryz.underlying47 rfl (by exact infoRtk) _ rfl _ rfl) rfl ?_
      exact ⟨rfl, below_set16 (unhide HB) (Nat.le_refl _) _ _ _ _ _ _ _ _ _ _ _ _ _ _ _ _⟩
end Go.Proofs.YtgoaefpkhjbkjaaGreatDoor
