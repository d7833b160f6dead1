/- The contracts of the reference's Ref1 and ParseRef. -/
import Derived.Deep.CutBlock
import Derived.Test.YtloamahbghjjgaaGreatDoorAdX
namespace Go.Proofs.YtloamahbghjjgaaGreatDoor
open Go.RowKit

theorem infoRR : (Tryz.prog.info? 67).map (·.size) = some 4 := by kernel_rfl
theorem at_drop (s : ByteArray) (i k j : Nat) (hj : j = i + k) (h : j < s.size) : (s.data.toList.drop i)[k]? = some s[j] := by
  rw [List.getElem?_drop]
  subst hj
  exact List.getElem?_eq_getElem h
theorem drop_snoc (s : ByteArray) (i k j : Nat) (hj : j = i + k) (h : j < s.size) : (s.data.toList.drop i).take (k + 1) = (s.data.toList.drop i).take k ++ [s[j]] := by
  obtain ⟨h1, h2⟩ := List.getElem?_eq_some_iff.1 (at_drop s i k j hj h)
  rw [List.take_succ_eq_append_getElem h1, h2]
theorem drop_head (s : ByteArray) (j : Nat) (h : j < s.size) : s.data.toList.drop j = s[j] :: s.data.toList.drop (j + 1) := by
  have hk : j < s.data.toList.length := h
  rw [List.drop_eq_getElem_cons hk]; rfl
theorem drop_stop (p : UInt8 → Bool) (s : ByteArray) (i k j : Nat) (hj : j = i + k) (h : j < s.size) (hp : p s[j] = false) : ((s.data.toList.drop i).drop k).takeWhile p = [] := by
  rw [List.drop_drop, ← hj, drop_head s j h, List.takeWhile_cons, if_neg (by rw [hp]; simp)]
theorem drop_end (s : ByteArray) (j : Nat) (h : s.size ≤ j) : s.data.toList.drop j = [] := List.drop_of_length_le h
theorem dolB_drop (s : ByteArray) (i : Nat) (h : i < s.size) : dolB (s.data.toList.drop i) = ((s[i].toNat : Int) == 36) := by
  rw [drop_head s i h]
  show (some s[i] == some 36) = _
  rw [Bool.eq_iff_iff, beq_iff_eq, beq_iff_eq]
  constructor
  · intro e; rw [Option.some.inj e]; rfl
  · intro e; exact congrArg some (UInt8.toNat_inj.1 (show s[i].toNat = 36 by omega))
theorem dolB_end (s : ByteArray) (i : Nat) (h : s.size ≤ i) : dolB (s.data.toList.drop i) = false := by rw [drop_end s i h]; rfl
theorem dolR_drop (l : List UInt8) (i : Nat) : dolR (l.drop i) = l.drop (i + (dolB (l.drop i)).toNat) := by
  unfold dolR
  cases h : dolB (l.drop i)
  · rfl
  · rw [if_pos rfl, List.tail_drop]; rfl
theorem tw_ge (p : UInt8 → Bool) : ∀ (l : List UInt8) (k : Nat), k ≤ l.length → (l.take k).all p = true → k ≤ (l.takeWhile p).length
  | _, 0, _, _ => Nat.zero_le _
  | [], k + 1, hk, _ => by simp at hk
  | c :: l, k + 1, hk, h => by
    rw [List.take_succ_cons, List.all_cons, Bool.and_eq_true] at h
    have := tw_ge p l k (by simpa using hk) h.2
    rw [List.takeWhile_cons, if_pos h.1, List.length_cons]
    omega
theorem rowV_snoc (l : List UInt8) (c : UInt8) : rowV (l ++ [c]) = rowV l * 10 + (c.toNat - 48) := by
  unfold rowV; rw [List.foldl_append]; rfl
/-- What the first loop leaves: how many letters there are, up to four. -/
def LetEnd (L : List UInt8) (i0 j k x : Nat) : Prop := j = i0 + k ∧ x = colV (L.take k) ∧ (L.take k).all isLet = true ∧ k ≤ L.length ∧ (k = 4 ∨ (L.drop k).takeWhile isLet = [])
theorem let_lens (l : List UInt8) (i0 j k x : Nat) (hi : dolR l = l.drop i0) (h : LetEnd (l.drop i0) i0 j k x) : (k < 1 ∨ 3 < k → ref1B l = false) ∧
    (1 ≤ k → k ≤ 3 → letsL l = (l.drop i0).take k ∧ restL l = l.drop j ∧ x = colV (letsL l) ∧ (letsL l).length = k) := by
  obtain ⟨h1, h2, h3, h4, h5⟩ := h
  have hge := tw_ge _ _ _ h4 h3
  refine ⟨fun hk => ?_, fun k1 k3 => ?_⟩
  · rcases hk with hk | hk
    · have hk0 : k = 0 := by omega
      subst hk0
      have h6 : (l.drop i0).takeWhile isLet = [] := by
        rcases h5 with h5 | h5
        · cases h5
        · exact h5
      unfold ref1B letsL
      rw [hi, h6]
      simp
    · have : ¬ (letsL l).length ≤ 3 := by unfold letsL; rw [hi]; omega
      unfold ref1B
      rw [decide_eq_false this]
      simp
  · obtain ⟨t1, t2⟩ := tw_len isLet (l.drop i0) k h4 h3 (by rcases h5 with h5 | h5; omega; exact h5)
    have e1 : letsL l = (l.drop i0).take k := by unfold letsL; rw [hi, t1]
    refine ⟨e1, by unfold restL; rw [hi, t2, List.drop_drop, h1], by rw [e1]; exact h2, by rw [e1, List.length_take]; omega⟩
theorem bad_len (l D : List UInt8) (hD : dolR (restL l) = D) (h : D.length < 1 ∨ 5 < D.length ∨ (D.headD 0 == 48) = true ∨ D.all isDg = false) : ref1B l = false := by
  unfold ref1B
  rw [hD]
  rcases h with h | h | h | h
  · rw [decide_eq_false (show ¬ 1 ≤ D.length by omega)]; simp
  · rw [decide_eq_false (show ¬ D.length ≤ 5 by omega)]; simp
  · rw [h]; simp
  · rw [h]; simp
theorem good_len (l D : List UInt8) (k : Nat) (hk : (letsL l).length = k) (k1 : 1 ≤ k) (k3 : k ≤ 3) (hD : dolR (restL l) = D) (h1 : 1 ≤ D.length) (h5 : D.length ≤ 5) (h0 : (D.headD 0 == 48) = false) (ha : D.all isDg = true) : ref1B l = true := by
  unfold ref1B
  rw [hD, hk, decide_eq_true k1, decide_eq_true k3, decide_eq_true h1, decide_eq_true h5, h0, ha]; rfl

set_option maxRecDepth 100000 in
set_option maxHeartbeats 8000000 in
theorem ref1_ref (s : ByteArray) (w : World) (hs : s.size ≤ 140000000000000) :
    Calls Tryz.prog 198 #[.string s] w fun e w' => e = .returned (.tuple #[.agg (formV s.data.toList).cells, .bool (ref1B s.data.toList)]) ∧ Below w.heap.size w w' := by
  obtain ⟨l, hl⟩ : ∃ l, s.data.toList = l := ⟨_, rfl⟩
  rw [hl]
  have HSL := hide hl
  clear hl
  go_enter Tryz.func198, Tryz.ntmps198
  go_upto_region 2 with fail
  have P0 := hide (cells_al (cells_new w 67 #[.int .i64 0, .int .i64 0, .bool false, .bool false]) (.cells #[.int .i64 0, .int .i64 0, .bool false, .bool false] 67))
  have P1 := hide (cells_new2 w (.cells #[.int .i64 0, .int .i64 0, .bool false, .bool false] 67) 67 #[.int .i64 0, .int .i64 0, .bool false, .bool false])
  have HB := hide (below_al2 w (.cells #[.int .i64 0, .int .i64 0, .bool false, .bool false] 67) (.cells #[.int .i64 0, .int .i64 0, .bool false, .bool false] 67))
  generalize hW : (w.alloc (.cells #[.int .i64 0, .int .i64 0, .bool false, .bool false] 67)).alloc (.cells #[.int .i64 0, .int .i64 0, .bool false, .bool false] 67) = W0 at P0 P1 HB ⊢
  clear hW
  go_upto_region 3 with fail
  go_cut [21] from 12 to 20 (fun v wx => v = .bool (dolB (s.data.toList.drop 0)) ∧ wx = W0)
  case first =>
    by_cases h0 : 0 < s.size
    · have hb := dolB_drop s 0 h0
      cases hc : ((s[0].toNat : Int) == 36)
      · rw [hc] at hb
        have HD : Hid (dolB (s.data.toList.drop 0) = false) := hide hb
        clear hb
        go_wp2
        go_meet
        case rel => exact ⟨by rw [unhide HD], rfl⟩
      · rw [hc] at hb
        have HD : Hid (dolB (s.data.toList.drop 0) = true) := hide hb
        clear hb
        go_wp2
        go_meet
        case rel => exact ⟨by rw [unhide HD], rfl⟩
    · have HD : Hid (dolB (s.data.toList.drop 0) = false) := hide (dolB_end s 0 (by omega))
      go_wp2
      go_meet
      case rel => exact ⟨by rw [unhide HD], rfl⟩
  case rest =>
    obtain ⟨rfl, rfl⟩ := hcut
    have HJL : Hid (dolB (s.data.toList.drop 0) = true → 0 < s.size) := hide (fun h => by rcases Nat.lt_or_ge 0 s.size with h1 | h1; exact h1; rw [dolB_end s 0 h1] at h; cases h)
    obtain ⟨fc, hfc⟩ : ∃ f, dolB (s.data.toList.drop 0) = f := ⟨_, rfl⟩
    rw [hfc] at HJL ⊢
    have Hfc := hide hfc
    clear hfc
    go_upto_if 21 with fail
    go_cut [5] from 21 (fun v wx => (∃ j1 : Nat, v = .int .i64 (j1 : Int) ∧ j1 ≤ s.size ∧ Hid (j1 = 0 + fc.toNat)) ∧ Hid (CellsAt wx w.heap.size 67 #[.int .i64 0, .int .i64 0, .bool false, .bool false]) ∧ Hid (CellsAt wx (w.heap.size + 1) 67 #[.int .i64 0, .int .i64 0, .bool fc, .bool false]) ∧ Hid (Below w.heap.size w wx))
    case first =>
      cases fc
      · go_wp2
        go_meet
        case rel => exact ⟨⟨0, rfl, by omega, hide rfl⟩, P0, P1, HB⟩
      · have hjl := unhide HJL rfl
        obtain ⟨y0, y1, y2, y3⟩ := cells4 (unhide P1)
        have g := cells_f (unhide P1) 2
        go_wp2
        go_meet
        case rel => exact ⟨⟨0 + 1, by go_num, by omega, hide rfl⟩, hide (cells_set_far (unhide P0) (by omega) 2 _), hide (cells_set (unhide P1) 2 _), hide (below_set (unhide HB) (by omega) _)⟩
    case rest =>
      obtain ⟨⟨i0, rfl, hi0, HI0⟩, P0, P1, HB⟩ := hcut
      have HR0 : Hid (dolR l = l.drop i0) := hide (by have h := dolR_drop l 0; rw [List.drop_zero] at h; rw [h, unhide HI0, ← unhide Hfc, List.drop_zero, unhide HSL])
      have HFC : Hid (dolB l = fc) := hide (by rw [← unhide Hfc, List.drop_zero, unhide HSL])
      clear HI0
      go_upto_block 0 with fail
      go_cut [5, 6, 7] from 8 (fun i n c wx => (∃ j k x : Nat, i = .int .i64 (j : Int) ∧ n = .int .i64 (k : Int) ∧ c = .int .i64 (x : Int) ∧ k ≤ 4 ∧ j ≤ s.size ∧ x ≤ 500000 ∧ Hid (LetEnd (s.data.toList.drop i0) i0 j k x)) ∧ wx = wc)
      case first =>
        go_wp2
        go_loop [5, 6, 7] (fun i n c => ∃ j k x : Nat, i = .int .i64 (j : Int) ∧ n = .int .i64 (k : Int) ∧ c = .int .i64 (x : Int) ∧ k ≤ 4 ∧ j ≤ s.size ∧ x ≤ 500000 ∧ Hid (j = i0 + k ∧ x = colV ((s.data.toList.drop i0).take k) ∧ ((s.data.toList.drop i0).take k).all isLet = true)) (fun i _ _ => s.size - (intOf i).toNat)
        case atStart => exact ⟨i0, 0, 0, rfl, rfl, rfl, by omega, by omega, by omega, hide ⟨rfl, rfl, rfl⟩⟩
        case round =>
          obtain ⟨j, k, x, rfl, rfl, rfl, hk4, hj, hx, HH⟩ := hrel
          have hkl : Hid (k ≤ (s.data.toList.drop i0).length) := hide (by rw [List.length_drop]; have := (unhide HH).1; show k ≤ s.size - i0; omega)
          by_cases hlt : j < s.size
          · by_cases hk : k < 4
            · have HC := hide (fun w => letter_ref s[j] w)
              cases hg : isLet s[j]
              · have HE : Hid (LetEnd (s.data.toList.drop i0) i0 j k x) := hide ⟨(unhide HH).1, (unhide HH).2.1, (unhide HH).2.2, unhide hkl, Or.inr (drop_stop isLet s i0 k j (unhide HH).1 hlt hg)⟩
                rw [hg] at HC
                clear hg
                go_wp2_with fail
                refine (unhide HC _).mono ?_
                rintro e w2 ⟨rfl, rfl⟩
                go_wp2
                go_meet
                case rel => exact ⟨⟨j, k, x, rfl, rfl, rfl, hk4, hj, hx, HE⟩, rfl⟩
              · have hub := up_let s[j] hg
                have hx3 : x ≤ 18278 := by
                  rw [(unhide HH).2.1]
                  exact colV_le _ (unhide HH).2.2 (by rw [List.length_take]; omega)
                have HS : Hid (((s.data.toList.drop i0).take (k + 1)).all isLet = true ∧ colV ((s.data.toList.drop i0).take (k + 1)) = x * 26 + ((upL s[j]).toNat - 65) + 1) := hide (by
                  rw [drop_snoc s i0 k j (unhide HH).1 hlt]
                  exact ⟨by rw [List.all_append, (unhide HH).2.2, List.all_cons, hg]; rfl, by rw [colV_snoc, ← (unhide HH).2.1]⟩)
                have hl := hg
                unfold isLet at hl
                rw [hg] at HC
                have hup : (upL s[j]).toNat = if 97 ≤ s[j].toNat then s[j].toNat - 32 else s[j].toNat := by
                  unfold upL
                  simp at hl
                  by_cases h9 : 97 ≤ s[j].toNat
                  · rw [if_pos ⟨h9, by omega⟩, if_pos h9, UInt8.toNat_ofNat']; omega
                  · rw [if_neg (by omega), if_neg h9]
                clear hg hl
                by_cases h9 : 97 ≤ s[j].toNat
                · rw [if_pos h9] at hup
                  have hz : s[j].toNat ≤ 122 := by omega
                  rw [hup] at HS hub
                  clear hup
                  generalize hq : s[j].toNat = q at HS hub h9 hz HC
                  have HQ := hide hq
                  go_wp2_with fail
                  refine (unhide HC _).mono ?_
                  rintro e w2 ⟨rfl, rfl⟩
                  go_wp2
                  go_round
                  case rel => exact ⟨j + 1, k + 1, 26 * x + (q - 32 - 65) + 1, by go_num, by go_num, by congr 1; omega, by omega, by omega, by omega, hide ⟨by have := (unhide HH).1; omega, by rw [(unhide HS).2]; omega, (unhide HS).1⟩⟩
                  case measure => simp [intOf]; omega
                · rw [if_neg h9] at hup
                  rw [hup] at HS hub
                  clear hup
                  generalize hq : s[j].toNat = q at HS hub h9 HC
                  have HQ := hide hq
                  go_wp2_with fail
                  refine (unhide HC _).mono ?_
                  rintro e w2 ⟨rfl, rfl⟩
                  go_wp2
                  go_round
                  case rel => exact ⟨j + 1, k + 1, 26 * x + (q - 65) + 1, by go_num, by go_num, by congr 1; omega, by omega, by omega, by omega, hide ⟨by have := (unhide HH).1; omega, by rw [(unhide HS).2]; omega, (unhide HS).1⟩⟩
                  case measure => simp [intOf]; omega
            · have hk' : k = 4 := by omega
              subst hk'
              have HE : Hid (LetEnd (s.data.toList.drop i0) i0 j 4 x) := hide ⟨(unhide HH).1, (unhide HH).2.1, (unhide HH).2.2, unhide hkl, Or.inl rfl⟩
              go_wp2
              go_meet
              case rel => exact ⟨⟨j, 4, x, rfl, rfl, rfl, by omega, hj, hx, HE⟩, rfl⟩
          · have HE : Hid (LetEnd (s.data.toList.drop i0) i0 j k x) := hide ⟨(unhide HH).1, (unhide HH).2.1, (unhide HH).2.2, unhide hkl, Or.inr (by rw [List.drop_drop, ← (unhide HH).1, drop_end s j (by omega)]; rfl)⟩
            go_wp2
            go_meet
            case rel => exact ⟨⟨j, k, x, rfl, rfl, rfl, hk4, hj, hx, HE⟩, rfl⟩
      case rest =>
        obtain ⟨⟨j, k, x, rfl, rfl, rfl, hk4, hj, hx, HLE⟩, rfl⟩ := hcut
        have HLL := hide (let_lens l i0 j k x (unhide HR0) (by rw [← unhide HSL]; exact unhide HLE))
        clear HLE
        by_cases k1 : k < 1
        · have k1i : (k : Int) < 1 := by omega
          have HV : Hid (formV l = zeroR ∧ ref1B l = false) := hide (by have h : ref1B l = false := ((unhide HLL).1 (Or.inl k1)); exact ⟨by unfold formV; rw [h]; rfl, h⟩)
          obtain ⟨x0, x1, x2, x3⟩ := cells4 (unhide P0)
          have h0 := cells_f (unhide P0) 0
          have h1 := cells_f (unhide P0) 1
          have h2 := cells_f (unhide P0) 2
          have h3 := cells_f (unhide P0) 3
          go_wp2
          refine bodyPost_ret (results_c1t rfl _ _ _ _ _ _ rfl (cells_set4 (unhide P0) _ _ _ _) Tryz.underlying67 rfl (by exact infoRR) _ rfl) rfl ?_
          exact ⟨by rw [(unhide HV).1, (unhide HV).2]; rfl, below_set4 (unhide HB) (Nat.le_refl _) _ _ _ _⟩
        · have k1i : 1 ≤ (k : Int) := by omega
          replace k1 : 1 ≤ k := by omega
          by_cases k3 : 3 < k
          · have k3i : 3 < (k : Int) := by omega
            have HV : Hid (formV l = zeroR ∧ ref1B l = false) := hide (by have h : ref1B l = false := ((unhide HLL).1 (Or.inr k3)); exact ⟨by unfold formV; rw [h]; rfl, h⟩)
            obtain ⟨x0, x1, x2, x3⟩ := cells4 (unhide P0)
            have h0 := cells_f (unhide P0) 0
            have h1 := cells_f (unhide P0) 1
            have h2 := cells_f (unhide P0) 2
            have h3 := cells_f (unhide P0) 3
            go_wp2
            refine bodyPost_ret (results_c1t rfl _ _ _ _ _ _ rfl (cells_set4 (unhide P0) _ _ _ _) Tryz.underlying67 rfl (by exact infoRR) _ rfl) rfl ?_
            exact ⟨by rw [(unhide HV).1, (unhide HV).2]; rfl, below_set4 (unhide HB) (Nat.le_refl _) _ _ _ _⟩
          · have k3i : (k : Int) ≤ 3 := by omega
            replace k3 : k ≤ 3 := by omega
            have HLT := hide ((unhide HLL).2 k1 k3)
            clear HLL
            go_upto_region 19 with fail
            go_cut [73] from 64 to 72 (fun v wx => v = .bool (dolB (s.data.toList.drop j)) ∧ wx = wc)
            case first =>
              by_cases h0 : j < s.size
              · have hb := dolB_drop s j h0
                cases hc : ((s[j].toNat : Int) == 36)
                · rw [hc] at hb
                  have HD : Hid (dolB (s.data.toList.drop j) = false) := hide hb
                  clear hb
                  go_wp2
                  go_meet
                  case rel => exact ⟨by rw [unhide HD], rfl⟩
                · rw [hc] at hb
                  have HD : Hid (dolB (s.data.toList.drop j) = true) := hide hb
                  clear hb
                  go_wp2
                  go_meet
                  case rel => exact ⟨by rw [unhide HD], rfl⟩
              · have HD : Hid (dolB (s.data.toList.drop j) = false) := hide (dolB_end s j (by omega))
                go_wp2
                go_meet
                case rel => exact ⟨by rw [unhide HD], rfl⟩
            case rest =>
              obtain ⟨rfl, rfl⟩ := hcut
              have HJL : Hid (dolB (s.data.toList.drop j) = true → j < s.size) := hide (fun h => by rcases Nat.lt_or_ge j s.size with h1 | h1; exact h1; rw [dolB_end s j h1] at h; cases h)
              obtain ⟨fr, hfr⟩ : ∃ f, dolB (s.data.toList.drop j) = f := ⟨_, rfl⟩
              rw [hfr] at HJL ⊢
              have Hfr := hide hfr
              clear hfr
              go_upto_if 73 with fail
              go_cut [5] from 73 (fun v wx => (∃ j1 : Nat, v = .int .i64 (j1 : Int) ∧ j1 ≤ s.size ∧ Hid (j1 = j + fr.toNat)) ∧ Hid (CellsAt wx w.heap.size 67 #[.int .i64 0, .int .i64 0, .bool false, .bool false]) ∧ Hid (CellsAt wx (w.heap.size + 1) 67 #[.int .i64 0, .int .i64 0, .bool fc, .bool fr]) ∧ Hid (Below w.heap.size w wx))
              case first =>
                cases fr
                · go_wp2
                  go_meet
                  case rel => exact ⟨⟨j, rfl, by omega, hide rfl⟩, P0, P1, HB⟩
                · have hjl := unhide HJL rfl
                  obtain ⟨y0, y1, y2, y3⟩ := cells4 (unhide P1)
                  have g := cells_f (unhide P1) 3
                  go_wp2
                  go_meet
                  case rel => exact ⟨⟨j + 1, by go_num, by omega, hide rfl⟩, hide (cells_set_far (unhide P0) (by omega) 3 _), hide (cells_set (unhide P1) 3 _), hide (below_set (unhide HB) (by omega) _)⟩
              case rest =>
                obtain ⟨⟨j1, rfl, hj1s, HJ1⟩, P0, P1, HB⟩ := hcut
                have HDD : Hid (dolR (restL l) = l.drop j1) := hide (by rw [(unhide HLT).2.1, dolR_drop, ← unhide HSL, unhide Hfr, ← unhide HJ1])
                have HFR : Hid (fr = dolB (l.drop j)) := hide (by rw [← unhide HSL, unhide Hfr])
                have HSZ : Hid ((s.data.toList.drop j1).length = s.size - j1) := hide (by rw [List.length_drop]; rfl)
                by_cases e1 : s.size - j1 < 1
                · have e1i : (s.size : Int) - (j1 : Int) < 1 := by omega
                  have HV : Hid (formV l = zeroR ∧ ref1B l = false) := hide (by have h : ref1B l = false := (bad_len l _ (unhide HDD) (Or.inl (by rw [← unhide HSL, unhide HSZ]; exact e1))); exact ⟨by unfold formV; rw [h]; rfl, h⟩)
                  obtain ⟨x0, x1, x2, x3⟩ := cells4 (unhide P0)
                  have h0 := cells_f (unhide P0) 0
                  have h1 := cells_f (unhide P0) 1
                  have h2 := cells_f (unhide P0) 2
                  have h3 := cells_f (unhide P0) 3
                  go_wp2
                  refine bodyPost_ret (results_c1t rfl _ _ _ _ _ _ rfl (cells_set4 (unhide P0) _ _ _ _) Tryz.underlying67 rfl (by exact infoRR) _ rfl) rfl ?_
                  exact ⟨by rw [(unhide HV).1, (unhide HV).2]; rfl, below_set4 (unhide HB) (Nat.le_refl _) _ _ _ _⟩
                · have e1i : 1 ≤ (s.size : Int) - (j1 : Int) := by omega
                  by_cases e5 : 5 < s.size - j1
                  · have e5i : 5 < (s.size : Int) - (j1 : Int) := by omega
                    have HV : Hid (formV l = zeroR ∧ ref1B l = false) := hide (by have h : ref1B l = false := (bad_len l _ (unhide HDD) (Or.inr (Or.inl (by rw [← unhide HSL, unhide HSZ]; exact e5)))); exact ⟨by unfold formV; rw [h]; rfl, h⟩)
                    obtain ⟨x0, x1, x2, x3⟩ := cells4 (unhide P0)
                    have h0 := cells_f (unhide P0) 0
                    have h1 := cells_f (unhide P0) 1
                    have h2 := cells_f (unhide P0) 2
                    have h3 := cells_f (unhide P0) 3
                    go_wp2
                    refine bodyPost_ret (results_c1t rfl _ _ _ _ _ _ rfl (cells_set4 (unhide P0) _ _ _ _) Tryz.underlying67 rfl (by exact infoRR) _ rfl) rfl ?_
                    exact ⟨by rw [(unhide HV).1, (unhide HV).2]; rfl, below_set4 (unhide HB) (Nat.le_refl _) _ _ _ _⟩
                  · have e5i : (s.size : Int) - (j1 : Int) ≤ 5 := by omega
                    have hj1 : j1 < s.size := by omega
                    have HH0 : Hid ((s.data.toList.drop j1).headD 0 = s[j1]) := hide (by rw [drop_head s j1 hj1]; rfl)
                    cases h48 : ((s[j1].toNat : Int) == 48)
                    · have HDL : Hid (1 ≤ (l.drop j1).length ∧ (l.drop j1).length ≤ 5 ∧ ((l.drop j1).headD 0 == 48) = false) := hide (by
                        rw [← unhide HSL]
                        refine ⟨by rw [unhide HSZ]; omega, by rw [unhide HSZ]; omega, ?_⟩
                        rw [unhide HH0, beq_eq_false_iff_ne]
                        rw [beq_eq_false_iff_ne] at h48
                        intro e
                        rw [e] at h48
                        exact h48 rfl)
                      go_wp2
                      go_loop [5, 10] (fun i r => ∃ j2 m y : Nat, i = .int .i64 (j2 : Int) ∧ r = .int .i64 (y : Int) ∧ j2 ≤ s.size ∧ m ≤ 5 ∧ y < 100000 ∧ Hid (j2 = j1 + m ∧ y = rowV ((s.data.toList.drop j1).take m) ∧ ((s.data.toList.drop j1).take m).all isDg = true)) (fun i _ => s.size - (intOf i).toNat)
                      case atStart => exact ⟨j1, 0, 0, rfl, rfl, by omega, by omega, by omega, hide ⟨rfl, rfl, rfl⟩⟩
                      case round =>
                        obtain ⟨j2, m, y, rfl, rfl, hj2, hm5, hy, HH⟩ := hrel
                        by_cases hlt : j2 < s.size
                        · have HC := hide (fun w => digit_ref s[j2] w)
                          have hm4 : m ≤ 4 := by have := (unhide HH).1; omega
                          cases hg : isDg s[j2]
                          · have HNA : Hid ((l.drop j1).all isDg = false) := hide (by
                              rw [← Bool.not_eq_true]
                              intro e
                              rw [List.all_eq_true] at e
                              have h := e s[j2] (by
                                have := at_drop s j1 m j2 (unhide HH).1 hlt
                                rw [unhide HSL] at this
                                exact List.mem_of_getElem? this)
                              rw [hg] at h
                              cases h)
                            rw [hg] at HC
                            have HV : Hid (formV l = zeroR ∧ ref1B l = false) := hide (by have h : ref1B l = false := (bad_len l _ (unhide HDD) (Or.inr (Or.inr (Or.inr (unhide HNA))))); exact ⟨by unfold formV; rw [h]; rfl, h⟩)
                            obtain ⟨x0, x1, x2, x3⟩ := cells4 (unhide P0)
                            have h0 := cells_f (unhide P0) 0
                            have h1 := cells_f (unhide P0) 1
                            have h2 := cells_f (unhide P0) 2
                            have h3 := cells_f (unhide P0) 3
                            go_wp2_with fail
                            refine (unhide HC _).mono ?_
                            rintro e w3 ⟨rfl, rfl⟩
                            go_wp2
                            refine bodyPost_ret (results_c1t rfl _ _ _ _ _ _ rfl (cells_set4 (unhide P0) _ _ _ _) Tryz.underlying67 rfl (by exact infoRR) _ rfl) rfl ?_
                            exact ⟨by rw [(unhide HV).1, (unhide HV).2]; rfl, below_set4 (unhide HB) (Nat.le_refl _) _ _ _ _⟩
                          · have HS : Hid (((s.data.toList.drop j1).take (m + 1)).all isDg = true ∧ rowV ((s.data.toList.drop j1).take (m + 1)) = y * 10 + (s[j2].toNat - 48)) := hide (by
                              rw [drop_snoc s j1 m j2 (unhide HH).1 hlt]
                              exact ⟨by rw [List.all_append, (unhide HH).2.2, List.all_cons, hg]; rfl, by rw [rowV_snoc, ← (unhide HH).2.1]⟩)
                            have hy' : rowV ((s.data.toList.drop j1).take (m + 1)) < 100000 := rowV_le _ (unhide HS).1 (by rw [List.length_take]; omega)
                            rw [(unhide HS).2] at hy'
                            rw [hg] at HC
                            unfold isDg at hg
                            simp at hg
                            generalize hq : s[j2].toNat = q at HS hg HC hy'
                            have HQ := hide hq
                            go_wp2_with fail
                            refine (unhide HC _).mono ?_
                            rintro e w3 ⟨rfl, rfl⟩
                            go_wp2
                            go_round
                            case rel => exact ⟨j2 + 1, m + 1, 10 * y + (q - 48), by go_num, by congr 1; omega, by omega, by omega, by omega, hide ⟨by have := (unhide HH).1; omega, by rw [(unhide HS).2]; omega, (unhide HS).1⟩⟩
                            case measure => simp [intOf]; omega
                        · have HY : Hid (y = rowV (s.data.toList.drop j1) ∧ (s.data.toList.drop j1).all isDg = true) := hide (by
                            have e : (s.data.toList.drop j1).take m = s.data.toList.drop j1 := List.take_of_length_le (by rw [List.length_drop]; show s.size - j1 ≤ m; have := (unhide HH).1; omega)
                            have h := unhide HH
                            rw [e] at h
                            exact h.2)
                          have HV : Hid (formV l = ⟨(x : Int) - 1, (y : Int) - 1, fc, fr⟩ ∧ ref1B l = true) := hide (by
                            have hr : ref1B l = true := good_len l _ k (unhide HLT).2.2.2 k1 k3 (unhide HDD) (unhide HDL).1 (unhide HDL).2.1 (unhide HDL).2.2 (by rw [← unhide HSL]; exact (unhide HY).2)
                            refine ⟨?_, hr⟩
                            unfold formV ref1V
                            rw [if_pos hr, unhide HDD, ← unhide HSL, ← (unhide HY).1, unhide HSL, ← (unhide HLT).2.2.1, (unhide HLT).2.1, ← unhide HFR, unhide HFC])
                          obtain ⟨y0, y1, y2, y3⟩ := cells4 (unhide P1)
                          have g0 := cells_f (unhide P1) 0
                          have g1 := cells_f (unhide P1) 1
                          obtain ⟨x0, x1, x2, x3⟩ := cells4 (unhide P0)
                          have h0 := cells_f (unhide P0) 0
                          have h1 := cells_f (unhide P0) 1
                          have h2 := cells_f (unhide P0) 2
                          have h3 := cells_f (unhide P0) 3
                          have hne : w.heap.size ≠ w.heap.size + 1 := by omega
                          go_wp2
                          refine bodyPost_ret (results_c1t rfl _ _ _ _ _ _ rfl (cells_set4 (cells_set_far (cells_set_far (unhide P0) (by omega) 0 _) (by omega) 1 _) _ _ _ _) Tryz.underlying67 rfl (by exact infoRR) _ rfl) rfl ?_
                          exact ⟨by rw [(unhide HV).1, (unhide HV).2]; rfl, below_set4 (below_set (below_set (unhide HB) (by omega) _) (by omega) _) (Nat.le_refl _) _ _ _ _⟩
                    · have HNA : Hid (((l.drop j1).headD 0 == 48) = true) := hide (by
                        rw [← unhide HSL, unhide HH0, beq_iff_eq]
                        rw [beq_iff_eq] at h48
                        exact UInt8.toNat_inj.1 (show s[j1].toNat = 48 by omega))
                      have HV : Hid (formV l = zeroR ∧ ref1B l = false) := hide (by have h : ref1B l = false := (bad_len l _ (unhide HDD) (Or.inr (Or.inr (Or.inl (unhide HNA))))); exact ⟨by unfold formV; rw [h]; rfl, h⟩)
                      obtain ⟨x0, x1, x2, x3⟩ := cells4 (unhide P0)
                      have h0 := cells_f (unhide P0) 0
                      have h1 := cells_f (unhide P0) 1
                      have h2 := cells_f (unhide P0) 2
                      have h3 := cells_f (unhide P0) 3
                      go_wp2
                      refine bodyPost_ret (results_c1t rfl _ _ _ _ _ _ rfl (cells_set4 (unhide P0) _ _ _ _) Tryz.underlying67 rfl (by exact infoRR) _ rfl) rfl ?_
                      exact ⟨by rw [(unhide HV).1, (unhide HV).2]; rfl, below_set4 (unhide HB) (Nat.le_refl _) _ _ _ _⟩
end Go.Proofs.YtloamahbghjjgaaGreatDoor

namespace Go.Proofs.YtloamahbghjjgaaGreatDoor
open Go.RowKit

theorem infoA : (Tryz.prog.info? 154).map (·.size) = some 4 := by kernel_rfl
theorem cells_new3 (w : World) (o p : Obj) (t : TypeId) (cs : Array Value) : CellsAt (((w.alloc o).alloc p).alloc (.cells cs t)) (w.heap.size + 2) t cs := by
  unfold CellsAt
  show (((w.heap.push o).push p).push _)[w.heap.size + 2]? = _
  rw [Array.getElem?_push, if_pos (by simp)]
theorem below_al3 (w : World) (o p q : Obj) : Below w.heap.size w (((w.alloc o).alloc p).alloc q) := (below_al2 w o p).alloc (by simp; omega) _
theorem prod_le (x y : Int) (h0 : 0 ≤ x) (h1 : x ≤ 64) (h2 : 0 ≤ y) (h3 : y ≤ 1024) : 0 ≤ x * y ∧ x * y ≤ 65536 :=
  ⟨Int.mul_nonneg h0 h2, by have := Int.mul_le_mul h1 h3 h2 (by omega); omega⟩
def hasG (a b c d x y : Int) : Bool := areaG a b c d && (decide (a ≤ x) && (decide (x ≤ c) && (decide (b ≤ y) && decide (y ≤ d))))
def meetB (a b c d a' b' c' d' : Int) : Bool := areaG a b c d && (areaG a' b' c' d' && areaG (max a a') (max b b') (min c c') (min d d'))

set_option maxRecDepth 100000 in
set_option maxHeartbeats 2000000 in
theorem count_val (a b c d : Int) (w : World) (h1 : cellG a b = true) (h2 : cellG c d = true) (h3 : a ≤ c) (h4 : b ≤ d) :
    Calls Tryz.prog 163 #[.agg #[.int .i64 a, .int .i64 b, .int .i64 c, .int .i64 d]] w fun e w' => e = .returned (.int .i64 (areaC a b c d)) ∧ Below w.heap.size w w' := by
  rw [cellG_iff] at h1 h2
  obtain ⟨a1, a2, a3, a4⟩ := h1
  obtain ⟨c1, c2, c3, c4⟩ := h2
  obtain ⟨q1, q2⟩ := prod_le (c - a + 1) (d - b + 1) (by omega) (by omega) (by omega) (by omega)
  unfold areaC
  go_enter Tryz.func163, Tryz.ntmps163
  go_wp2
  go_ret
  exact ⟨rfl, below_al _ _⟩

set_option maxRecDepth 100000 in
set_option maxHeartbeats 2000000 in
theorem areaGood_val (a b c d : Int) (w : World) :
    Calls Tryz.prog 112 #[.agg #[.int .i64 a, .int .i64 b, .int .i64 c, .int .i64 d]] w fun e w' => e = .returned (.bool (areaG a b c d)) ∧ Below w.heap.size w w' := by
  have H1 := hide (fun w => cellGood_val a b w)
  have H2 := hide (fun w => cellGood_val c d w)
  cases g1 : cellG a b
  · rw [g1] at H1
    have E : areaG a b c d = false := by rw [← Bool.not_eq_true, areaG_iff]; rw [g1]; simp
    rw [E]
    clear E
    clear g1
    go_enter Tryz.func112, Tryz.ntmps112
    go_upto_region 1 with fail
    have P := hide (cells_new w 154 #[.int .i64 a, .int .i64 b, .int .i64 c, .int .i64 d])
    have HB : Hid (Below w.heap.size w (w.alloc (.cells #[.int .i64 a, .int .i64 b, .int .i64 c, .int .i64 d] 154))) := hide (below_al _ _)
    generalize hW : w.alloc (.cells #[.int .i64 a, .int .i64 b, .int .i64 c, .int .i64 d] 154) = W0 at P HB ⊢
    clear hW
    obtain ⟨p_0, p_1, p_2, p_3⟩ := cells4 (unhide P)
    go_wp2_with fail
    refine (unhide H1 _).mono ?_
    rintro e wk1 ⟨rfl, bk1⟩
    replace P := hide (cells_nx (unhide P) bk1)
    replace HB := hide (below_nx (unhide HB) bk1)
    clear bk1
    clear p_0 p_1 p_2 p_3
    go_wp2
    go_ret
    exact ⟨rfl, unhide HB⟩
  · rw [g1] at H1
    cases g2 : cellG c d
    · rw [g2] at H2
      have E : areaG a b c d = false := by rw [← Bool.not_eq_true, areaG_iff]; rw [g2]; simp
      rw [E]
      clear E
      clear g1 g2
      go_enter Tryz.func112, Tryz.ntmps112
      go_upto_region 1 with fail
      have P := hide (cells_new w 154 #[.int .i64 a, .int .i64 b, .int .i64 c, .int .i64 d])
      have HB : Hid (Below w.heap.size w (w.alloc (.cells #[.int .i64 a, .int .i64 b, .int .i64 c, .int .i64 d] 154))) := hide (below_al _ _)
      generalize hW : w.alloc (.cells #[.int .i64 a, .int .i64 b, .int .i64 c, .int .i64 d] 154) = W0 at P HB ⊢
      clear hW
      obtain ⟨p_0, p_1, p_2, p_3⟩ := cells4 (unhide P)
      go_wp2_with fail
      refine (unhide H1 _).mono ?_
      rintro e wk1 ⟨rfl, bk1⟩
      replace P := hide (cells_nx (unhide P) bk1)
      replace HB := hide (below_nx (unhide HB) bk1)
      clear bk1
      clear p_0 p_1 p_2 p_3
      obtain ⟨p_0, p_1, p_2, p_3⟩ := cells4 (unhide P)
      go_wp2_with fail
      refine (unhide H2 _).mono ?_
      rintro e wk2 ⟨rfl, bk2⟩
      replace P := hide (cells_nx (unhide P) bk2)
      replace HB := hide (below_nx (unhide HB) bk2)
      clear bk2
      clear p_0 p_1 p_2 p_3
      go_wp2
      go_ret
      exact ⟨rfl, unhide HB⟩
    · rw [g2] at H2
      by_cases h3 : a ≤ c
      · by_cases h4 : b ≤ d
        · have HC := hide (fun w => count_val a b c d w g1 g2 h3 h4)
          have E : areaG a b c d = decide (areaC a b c d ≤ 4096) := by unfold areaG; rw [g1, g2, decide_eq_true h3, decide_eq_true h4]; rfl
          rw [E]
          clear E g1 g2
          generalize areaC a b c d = n at HC ⊢
          go_enter Tryz.func112, Tryz.ntmps112
          go_upto_region 1 with fail
          have P := hide (cells_new w 154 #[.int .i64 a, .int .i64 b, .int .i64 c, .int .i64 d])
          have HB : Hid (Below w.heap.size w (w.alloc (.cells #[.int .i64 a, .int .i64 b, .int .i64 c, .int .i64 d] 154))) := hide (below_al _ _)
          generalize hW : w.alloc (.cells #[.int .i64 a, .int .i64 b, .int .i64 c, .int .i64 d] 154) = W0 at P HB ⊢
          clear hW
          obtain ⟨p_0, p_1, p_2, p_3⟩ := cells4 (unhide P)
          go_wp2_with fail
          refine (unhide H1 _).mono ?_
          rintro e wk1 ⟨rfl, bk1⟩
          replace P := hide (cells_nx (unhide P) bk1)
          replace HB := hide (below_nx (unhide HB) bk1)
          clear bk1
          clear p_0 p_1 p_2 p_3
          obtain ⟨p_0, p_1, p_2, p_3⟩ := cells4 (unhide P)
          go_wp2_with fail
          refine (unhide H2 _).mono ?_
          rintro e wk2 ⟨rfl, bk2⟩
          replace P := hide (cells_nx (unhide P) bk2)
          replace HB := hide (below_nx (unhide HB) bk2)
          clear bk2
          clear p_0 p_1 p_2 p_3
          obtain ⟨p_0, p_1, p_2, p_3⟩ := cells4 (unhide P)
          go_wp2_with fail
          refine (unhide HC _).mono ?_
          rintro e wk3 ⟨rfl, bk3⟩
          replace P := hide (cells_nx (unhide P) bk3)
          replace HB := hide (below_nx (unhide HB) bk3)
          clear bk3
          clear p_0 p_1 p_2 p_3
          go_wp2
          go_ret
          exact ⟨rfl, unhide HB⟩
        · have d4 : decide (d < b) = true := decide_eq_true (by omega)
          have d3 : decide (c < a) = false := decide_eq_false (by omega)
          have E : areaG a b c d = false := by rw [← Bool.not_eq_true, areaG_iff]; omega
          rw [E]
          clear E
          clear g1 g2
          replace h4 : d < b := by omega
          go_enter Tryz.func112, Tryz.ntmps112
          go_upto_region 1 with fail
          have P := hide (cells_new w 154 #[.int .i64 a, .int .i64 b, .int .i64 c, .int .i64 d])
          have HB : Hid (Below w.heap.size w (w.alloc (.cells #[.int .i64 a, .int .i64 b, .int .i64 c, .int .i64 d] 154))) := hide (below_al _ _)
          generalize hW : w.alloc (.cells #[.int .i64 a, .int .i64 b, .int .i64 c, .int .i64 d] 154) = W0 at P HB ⊢
          clear hW
          obtain ⟨p_0, p_1, p_2, p_3⟩ := cells4 (unhide P)
          go_wp2_with fail
          refine (unhide H1 _).mono ?_
          rintro e wk1 ⟨rfl, bk1⟩
          replace P := hide (cells_nx (unhide P) bk1)
          replace HB := hide (below_nx (unhide HB) bk1)
          clear bk1
          clear p_0 p_1 p_2 p_3
          obtain ⟨p_0, p_1, p_2, p_3⟩ := cells4 (unhide P)
          go_wp2_with fail
          refine (unhide H2 _).mono ?_
          rintro e wk2 ⟨rfl, bk2⟩
          replace P := hide (cells_nx (unhide P) bk2)
          replace HB := hide (below_nx (unhide HB) bk2)
          clear bk2
          clear p_0 p_1 p_2 p_3
          obtain ⟨p_0, p_1, p_2, p_3⟩ := cells4 (unhide P)
          go_wp2
          go_ret
          exact ⟨rfl, unhide HB⟩
      · have d3 : decide (c < a) = true := decide_eq_true (by omega)
        have E : areaG a b c d = false := by rw [← Bool.not_eq_true, areaG_iff]; omega
        rw [E]
        clear E
        clear g1 g2
        replace h3 : c < a := by omega
        go_enter Tryz.func112, Tryz.ntmps112
        go_upto_region 1 with fail
        have P := hide (cells_new w 154 #[.int .i64 a, .int .i64 b, .int .i64 c, .int .i64 d])
        have HB : Hid (Below w.heap.size w (w.alloc (.cells #[.int .i64 a, .int .i64 b, .int .i64 c, .int .i64 d] 154))) := hide (below_al _ _)
        generalize hW : w.alloc (.cells #[.int .i64 a, .int .i64 b, .int .i64 c, .int .i64 d] 154) = W0 at P HB ⊢
        clear hW
        obtain ⟨p_0, p_1, p_2, p_3⟩ := cells4 (unhide P)
        go_wp2_with fail
        refine (unhide H1 _).mono ?_
        rintro e wk1 ⟨rfl, bk1⟩
        replace P := hide (cells_nx (unhide P) bk1)
        replace HB := hide (below_nx (unhide HB) bk1)
        clear bk1
        clear p_0 p_1 p_2 p_3
        obtain ⟨p_0, p_1, p_2, p_3⟩ := cells4 (unhide P)
        go_wp2_with fail
        refine (unhide H2 _).mono ?_
        rintro e wk2 ⟨rfl, bk2⟩
        replace P := hide (cells_nx (unhide P) bk2)
        replace HB := hide (below_nx (unhide HB) bk2)
        clear bk2
        clear p_0 p_1 p_2 p_3
        obtain ⟨p_0, p_1, p_2, p_3⟩ := cells4 (unhide P)
        go_wp2
        go_ret
        exact ⟨rfl, unhide HB⟩

end Go.Proofs.YtloamahbghjjgaaGreatDoor

namespace Go.Proofs.YtloamahbghjjgaaGreatDoor
open Go.RowKit

set_option maxRecDepth 100000 in
set_option maxHeartbeats 4000000 in
theorem area_ref (p q : Rf) (w : World) :
    Calls Tryz.prog 125 #[.agg p.cells, .agg q.cells] w fun e w' => e = .returned (.tuple #[.bool (areaG p.col p.row q.col q.row), .int .i64 (areaN p.col p.row q.col q.row)]) ∧ Below w.heap.size w w' := by
  obtain ⟨a, b, f1, f2⟩ := p
  obtain ⟨c, d, f3, f4⟩ := q
  unfold Rf.cells
  simp only []
  have H1 := hide (fun w => cell_ref a b w)
  have H2 := hide (fun w => cell_ref c d w)
  cases g1 : cellG a b
  · have E : areaG a b c d = false := by rw [← Bool.not_eq_true, areaG_iff]; rw [g1]; simp
    have E2 : areaN a b c d = 0 := by unfold areaN; rw [E]; rfl
    rw [E, E2]
    clear E E2
    rw [g1] at H1
    clear g1
    generalize cellG c d = g at H2
    go_enter Tryz.func125, Tryz.ntmps125
    go_upto_region 1 with fail
    have P := hide (cells_al (cells_new w 67 #[.int .i64 a, .int .i64 b, .bool f1, .bool f2]) (.cells #[.int .i64 c, .int .i64 d, .bool f3, .bool f4] 67))
    have Q := hide (cells_new2 w (.cells #[.int .i64 a, .int .i64 b, .bool f1, .bool f2] 67) 67 #[.int .i64 c, .int .i64 d, .bool f3, .bool f4])
    have HB : Hid (Below w.heap.size w ((w.alloc (.cells #[.int .i64 a, .int .i64 b, .bool f1, .bool f2] 67)).alloc (.cells #[.int .i64 c, .int .i64 d, .bool f3, .bool f4] 67))) := hide (below_al2 _ _ _)
    generalize hW : (w.alloc (.cells #[.int .i64 a, .int .i64 b, .bool f1, .bool f2] 67)).alloc (.cells #[.int .i64 c, .int .i64 d, .bool f3, .bool f4] 67) = W0 at P Q HB ⊢
    clear hW
    obtain ⟨p_0, p_1, p_2, p_3⟩ := cells4 (unhide P)
    obtain ⟨q_0, q_1, q_2, q_3⟩ := cells4 (unhide Q)
    go_wp2_with fail
    refine (unhide H1 _).mono ?_
    rintro e wk1 ⟨rfl, rfl⟩
    go_wp2_with fail
    refine (unhide H2 _).mono ?_
    rintro e wk2 ⟨rfl, rfl⟩
    go_wp2
    go_ret2
    exact ⟨rfl, unhide HB⟩
  · cases g2 : cellG c d
    · have E : areaG a b c d = false := by rw [← Bool.not_eq_true, areaG_iff]; rw [g2]; simp
      have E2 : areaN a b c d = 0 := by unfold areaN; rw [E]; rfl
      rw [E, E2]
      clear E E2
      rw [g1] at H1
      rw [g2] at H2
      clear g1 g2
      go_enter Tryz.func125, Tryz.ntmps125
      go_upto_region 1 with fail
      have P := hide (cells_al (cells_new w 67 #[.int .i64 a, .int .i64 b, .bool f1, .bool f2]) (.cells #[.int .i64 c, .int .i64 d, .bool f3, .bool f4] 67))
      have Q := hide (cells_new2 w (.cells #[.int .i64 a, .int .i64 b, .bool f1, .bool f2] 67) 67 #[.int .i64 c, .int .i64 d, .bool f3, .bool f4])
      have HB : Hid (Below w.heap.size w ((w.alloc (.cells #[.int .i64 a, .int .i64 b, .bool f1, .bool f2] 67)).alloc (.cells #[.int .i64 c, .int .i64 d, .bool f3, .bool f4] 67))) := hide (below_al2 _ _ _)
      generalize hW : (w.alloc (.cells #[.int .i64 a, .int .i64 b, .bool f1, .bool f2] 67)).alloc (.cells #[.int .i64 c, .int .i64 d, .bool f3, .bool f4] 67) = W0 at P Q HB ⊢
      clear hW
      obtain ⟨p_0, p_1, p_2, p_3⟩ := cells4 (unhide P)
      obtain ⟨q_0, q_1, q_2, q_3⟩ := cells4 (unhide Q)
      go_wp2_with fail
      refine (unhide H1 _).mono ?_
      rintro e wk1 ⟨rfl, rfl⟩
      go_wp2_with fail
      refine (unhide H2 _).mono ?_
      rintro e wk2 ⟨rfl, rfl⟩
      go_wp2
      go_ret2
      exact ⟨rfl, unhide HB⟩
    · by_cases h3 : a ≤ c
      · by_cases h4 : b ≤ d
        · have G1 := hide g1
          have G2 := hide g2
          rw [g1] at H1
          rw [g2] at H2
          rw [cellG_iff] at g1 g2
          obtain ⟨a1, a2, a3, a4⟩ := g1
          obtain ⟨c1, c2, c3, c4⟩ := g2
          go_enter Tryz.func125, Tryz.ntmps125
          go_upto_region 1 with fail
          have P := hide (cells_al (cells_new w 67 #[.int .i64 a, .int .i64 b, .bool f1, .bool f2]) (.cells #[.int .i64 c, .int .i64 d, .bool f3, .bool f4] 67))
          have Q := hide (cells_new2 w (.cells #[.int .i64 a, .int .i64 b, .bool f1, .bool f2] 67) 67 #[.int .i64 c, .int .i64 d, .bool f3, .bool f4])
          have HB : Hid (Below w.heap.size w ((w.alloc (.cells #[.int .i64 a, .int .i64 b, .bool f1, .bool f2] 67)).alloc (.cells #[.int .i64 c, .int .i64 d, .bool f3, .bool f4] 67))) := hide (below_al2 _ _ _)
          generalize hW : (w.alloc (.cells #[.int .i64 a, .int .i64 b, .bool f1, .bool f2] 67)).alloc (.cells #[.int .i64 c, .int .i64 d, .bool f3, .bool f4] 67) = W0 at P Q HB ⊢
          clear hW
          obtain ⟨p_0, p_1, p_2, p_3⟩ := cells4 (unhide P)
          obtain ⟨q_0, q_1, q_2, q_3⟩ := cells4 (unhide Q)
          go_wp2_with fail
          refine (unhide H1 _).mono ?_
          rintro e wk1 ⟨rfl, rfl⟩
          go_wp2_with fail
          refine (unhide H2 _).mono ?_
          rintro e wk2 ⟨rfl, rfl⟩
          go_wp2
          go_loop [8, 9] (fun n i => ∃ (k : Nat) (v z : Int), i = .int .i64 z ∧ n = .int .i64 v ∧ 0 ≤ v ∧ v ≤ 65536 ∧ a ≤ z ∧ z ≤ c + 1 ∧ Hid (z = a + k ∧ v = (k : Int) * (d - b + 1))) (fun _ i => (c + 1 - intOf i).toNat)
          case atStart => exact ⟨0, 0, a, rfl, rfl, by omega, by omega, by omega, by omega, hide ⟨by omega, by omega⟩⟩
          case round =>
            obtain ⟨k, v, z, rfl, rfl, v0, v1, z0, z1, HH⟩ := hrel
            by_cases hlt : z ≤ c
            · have hk := prod_le ((k : Int) + 1) (d - b + 1) (by omega) (by have := (unhide HH).1; omega) (by omega) (by omega)
              have HV : Hid (v + d - b + 1 = ((k : Int) + 1) * (d - b + 1)) := hide (by rw [Int.add_mul, ← (unhide HH).2]; omega)
              rw [← unhide HV] at hk
              obtain ⟨hk0, hk1⟩ := hk
              go_wp2
              go_round
              case rel => exact ⟨k + 1, v + d - b + 1, z + 1, rfl, rfl, by omega, by omega, by omega, by omega, hide ⟨by have := (unhide HH).1; omega, by rw [unhide HV]; rfl⟩⟩
              case measure => simp [intOf]; omega
            · have HN : Hid (v = areaC a b c d) := hide (by
                rw [(unhide HH).2]
                unfold areaC
                have : (k : Int) = c - a + 1 := by have := (unhide HH).1; omega
                rw [this])
              have hzc : c < z := by omega
              clear hlt
              by_cases h5 : v ≤ 4096
              · have E : Hid (areaG a b c d = true ∧ areaN a b c d = v) := hide (by
                  have e : areaG a b c d = true := by unfold areaG; rw [unhide G1, unhide G2, decide_eq_true h3, decide_eq_true h4, ← unhide HN, decide_eq_true h5]; rfl
                  exact ⟨e, by unfold areaN; rw [e, unhide HN]; rfl⟩)
                go_wp2
                go_ret2
                exact ⟨by rw [(unhide E).1, (unhide E).2]; rfl, unhide HB⟩
              · have E : Hid (areaG a b c d = false ∧ areaN a b c d = 0) := hide (by
                  have e : areaG a b c d = false := by unfold areaG; rw [← unhide HN, decide_eq_false h5]; simp
                  exact ⟨e, by unfold areaN; rw [e]; rfl⟩)
                replace h5 : 4096 < v := by omega
                go_wp2
                go_ret2
                exact ⟨by rw [(unhide E).1, (unhide E).2]; rfl, unhide HB⟩
        · have E : areaG a b c d = false := by rw [← Bool.not_eq_true, areaG_iff]; omega
          have E2 : areaN a b c d = 0 := by unfold areaN; rw [E]; rfl
          rw [E, E2]
          clear E E2
          have d4 : decide (d < b) = true := decide_eq_true (by omega)
          have d3 : decide (c < a) = false := decide_eq_false (by omega)
          replace h4 : d < b := by omega
          rw [g1] at H1
          rw [g2] at H2
          clear g1 g2
          go_enter Tryz.func125, Tryz.ntmps125
          go_upto_region 1 with fail
          have P := hide (cells_al (cells_new w 67 #[.int .i64 a, .int .i64 b, .bool f1, .bool f2]) (.cells #[.int .i64 c, .int .i64 d, .bool f3, .bool f4] 67))
          have Q := hide (cells_new2 w (.cells #[.int .i64 a, .int .i64 b, .bool f1, .bool f2] 67) 67 #[.int .i64 c, .int .i64 d, .bool f3, .bool f4])
          have HB : Hid (Below w.heap.size w ((w.alloc (.cells #[.int .i64 a, .int .i64 b, .bool f1, .bool f2] 67)).alloc (.cells #[.int .i64 c, .int .i64 d, .bool f3, .bool f4] 67))) := hide (below_al2 _ _ _)
          generalize hW : (w.alloc (.cells #[.int .i64 a, .int .i64 b, .bool f1, .bool f2] 67)).alloc (.cells #[.int .i64 c, .int .i64 d, .bool f3, .bool f4] 67) = W0 at P Q HB ⊢
          clear hW
          obtain ⟨p_0, p_1, p_2, p_3⟩ := cells4 (unhide P)
          obtain ⟨q_0, q_1, q_2, q_3⟩ := cells4 (unhide Q)
          go_wp2_with fail
          refine (unhide H1 _).mono ?_
          rintro e wk1 ⟨rfl, rfl⟩
          go_wp2_with fail
          refine (unhide H2 _).mono ?_
          rintro e wk2 ⟨rfl, rfl⟩
          go_wp2
          go_ret2
          exact ⟨rfl, unhide HB⟩
      · have E : areaG a b c d = false := by rw [← Bool.not_eq_true, areaG_iff]; omega
        have E2 : areaN a b c d = 0 := by unfold areaN; rw [E]; rfl
        rw [E, E2]
        clear E E2
        have d3 : decide (c < a) = true := decide_eq_true (by omega)
        replace h3 : c < a := by omega
        rw [g1] at H1
        rw [g2] at H2
        clear g1 g2
        go_enter Tryz.func125, Tryz.ntmps125
        go_upto_region 1 with fail
        have P := hide (cells_al (cells_new w 67 #[.int .i64 a, .int .i64 b, .bool f1, .bool f2]) (.cells #[.int .i64 c, .int .i64 d, .bool f3, .bool f4] 67))
        have Q := hide (cells_new2 w (.cells #[.int .i64 a, .int .i64 b, .bool f1, .bool f2] 67) 67 #[.int .i64 c, .int .i64 d, .bool f3, .bool f4])
        have HB : Hid (Below w.heap.size w ((w.alloc (.cells #[.int .i64 a, .int .i64 b, .bool f1, .bool f2] 67)).alloc (.cells #[.int .i64 c, .int .i64 d, .bool f3, .bool f4] 67))) := hide (below_al2 _ _ _)
        generalize hW : (w.alloc (.cells #[.int .i64 a, .int .i64 b, .bool f1, .bool f2] 67)).alloc (.cells #[.int .i64 c, .int .i64 d, .bool f3, .bool f4] 67) = W0 at P Q HB ⊢
        clear hW
        obtain ⟨p_0, p_1, p_2, p_3⟩ := cells4 (unhide P)
        obtain ⟨q_0, q_1, q_2, q_3⟩ := cells4 (unhide Q)
        go_wp2_with fail
        refine (unhide H1 _).mono ?_
        rintro e wk1 ⟨rfl, rfl⟩
        go_wp2_with fail
        refine (unhide H2 _).mono ?_
        rintro e wk2 ⟨rfl, rfl⟩
        go_wp2
        go_ret2
        exact ⟨rfl, unhide HB⟩
end Go.Proofs.YtloamahbghjjgaaGreatDoor
