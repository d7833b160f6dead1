/- The walk of LexLong. -/
import Derived.Test.YtgoaefpkhjbkjaaGreatDoorLzZ
import Derived.Test.YtgoaefpkhjbkjaaGreatDoorLyQ
import Derived.Deep.CutRange
namespace Go.Proofs.YtgoaefpkhjbkjaaGreatDoor
open Go.RowKit

/-- The text 1 1 1 .. of so many bytes. -/
def onesL : Nat → List UInt8
  | 0 => []
  | k + 1 => onesL k ++ [if k % 2 = 0 then 49 else 32]
theorem ones_len (k : Nat) : (onesL k).length = k := by
  induction k with
  | zero => rfl
  | succ k ih => rw [onesL, List.length_append, ih]; rfl
theorem ones_two (m : Nat) : onesL (2 * m + 2) = onesL (2 * m) ++ [49, 32] := by
  rw [onesL, onesL, if_pos (by omega), if_neg (by omega)]
  simp
theorem ones_take (k j : Nat) (h : k ≤ j) : (onesL j).take k = onesL k := by
  induction j with
  | zero => have : k = 0 := by omega
            subst this; rfl
  | succ j ih =>
    by_cases e : k = j + 1
    · subst e; exact List.take_of_length_le (by rw [ones_len]; exact Nat.le_refl _)
    · rw [onesL, List.take_append_of_le_length (by rw [ones_len]; omega)]
      exact ih (by omega)
theorem ones_mem (k : Nat) : ∀ c ∈ onesL k, c = 49 ∨ c = 32 := by
  induction k with
  | zero => intro c h; cases h
  | succ k ih =>
    intro c h
    rw [onesL, List.mem_append, List.mem_singleton] at h
    rcases h with h | h
    · exact ih c h
    · rw [h]; split
      · exact Or.inl rfl
      · exact Or.inr rfl
/-- In front a one, then a blank. -/
theorem ones_front (k : Nat) : onesL (k + 2) = 49 :: 32 :: onesL k := by
  induction k with
  | zero => rfl
  | succ k ih =>
    rw [onesL, ih, onesL]
    have : (k + 2) % 2 = k % 2 := by omega
    rw [this]; rfl
theorem num_one (x : List UInt8) (h : x.takeWhile inNumC = []) : tok1 (49 :: x) = (⟨0, emp, 10000, 0, zeroF, 0⟩, 1, 0) := by
  have e : numR (49 :: x) = [49] := by
    unfold numR
    rw [List.takeWhile_cons, if_pos (by decide), h]
  have p : parseR [49] = (10000, 0) := by kernel_rfl
  unfold tok1
  rw [show (49 :: x).headD 0 = 49 from rfl, if_pos (by decide)]
  unfold numTok
  rw [e, p, if_pos rfl]; rfl
theorem lex_ones : ∀ (k o : Nat), (lexL o (onesL k)).2.2 = 0
  | 0, o => by rw [onesL, lexL_nil]
  | 1, o => by
    rw [show onesL 1 = [49] from rfl, lexL_ok o 49 [] (by decide) (by rw [num_one [] rfl]), num_one [] rfl]
    rw [show ([49].drop 1 : List UInt8) = [] from rfl, lexL_nil]; rfl
  | k + 2, o => by
    have ht := num_one (32 :: onesL k) (by rw [List.takeWhile_cons, if_neg (by decide)])
    rw [ones_front, lexL_ok o 49 (32 :: onesL k) (by decide) (by rw [ht]), ht]
    rw [show (49 :: 32 :: onesL k).drop 1 = 32 :: onesL k from rfl, lexL_blank]
    unfold preT
    have := lex_ones k (o + 1 + 1)
    rw [if_pos this]
    exact this
theorem ones_err (k : Nat) : (lexT (onesL k)).2.2 = if k ≤ 512 then 0 else 7 := by
  unfold lexT
  rw [ones_len]
  by_cases h : k ≤ 512
  · rw [if_neg (by omega), if_pos h]; exact lex_ones k 0
  · rw [if_pos (by omega), if_neg h]
theorem q_ones (l : List UInt8) (h : ∀ c ∈ l, c ≠ 34) : qIn (l ++ [34]) = some (l, l.length + 1) := by
  induction l with
  | nil => rw [List.nil_append, qIn, if_pos rfl]; rfl
  | cons c l ih =>
    have hc := h c List.mem_cons_self
    have ih := ih (fun d hd => h d (List.mem_cons_of_mem _ hd))
    rw [List.cons_append]
    cases hY : l ++ [34] with
    | nil => simp at hY
    | cons d m =>
      rw [hY] at ih
      rw [qIn, if_neg hc, ih]; rfl
theorem text_ones (l : List UInt8) (h : ∀ c ∈ l, c ≠ 34) (hl : l.length ≤ 400) : (lexT (34 :: (l ++ [34]))).2.2 = if l.length ≤ 255 then 0 else 7 := by
  have ht : tok1 (34 :: (l ++ [34])) = if 255 < l.length then badT 7 else (⟨1, ⟨l.toArray⟩, 0, 0, zeroF, 0⟩, l.length + 2, 0) := by
    unfold tok1
    rw [show (34 :: (l ++ [34])).headD 0 = 34 from rfl, if_neg (by decide), if_neg (by decide), if_neg (by decide), if_pos rfl]
    unfold textTok
    rw [List.tail_cons, q_ones l h]
  unfold lexT
  rw [if_neg (by rw [List.length_cons, List.length_append, List.length_singleton]; omega)]
  by_cases h5 : 255 < l.length
  · rw [if_pos h5] at ht
    rw [lexL_bad 0 34 _ (by decide) (by rw [ht]; decide), ht, if_neg (by omega)]; rfl
  · rw [if_neg h5] at ht
    rw [lexL_ok 0 34 _ (by decide) (by rw [ht]), ht, if_pos (by omega)]
    have : (34 :: (l ++ [34])).drop (l.length + 2) = [] := List.drop_of_length_le (by simp)
    simp only []
    rw [this, lexL_nil]; rfl
theorem conv_nil (w : World) (a : Addr) (c : Nat) : (convert 56 9 (.slice (some a) 0 c)).run Tryz.prog w = .ok (.string ⟨#[]⟩) w :=
  run_convert_bytes_back (P := Tryz.prog) w 56 9 5 a c [] Tryz.underlying56 Tryz.underlying5 Tryz.underlying9 (fun j hj => by simp at hj)
def onesB (k : Nat) : ByteArray := ⟨(onesL k).toArray⟩
theorem onesB_size (k : Nat) : (onesB k).size = k := ones_len k
theorem onesB_two (m : Nat) : onesB (2 * m) ++ (⟨#[49, 32]⟩ : ByteArray) = onesB (2 * (m + 1)) := by
  unfold onesB
  rw [show 2 * (m + 1) = 2 * m + 2 by omega, ones_two]
  apply ByteArray.ext
  simp
theorem onesB_cut (j k : Nat) (h : k ≤ j) : (onesB j).extract 0 k = onesB k := by
  rw [ext_take]
  unfold onesB
  show (⟨((onesL j).take k).toArray⟩ : ByteArray) = _
  rw [ones_take k j h]
theorem quote_ones (k : Nat) : ((⟨#[34]⟩ : ByteArray) ++ onesB k) ++ ⟨#[34]⟩ = ⟨(34 :: (onesL k ++ [34])).toArray⟩ := by
  unfold onesB
  apply ByteArray.ext
  simp
set_option maxRecDepth 100000 in
set_option maxHeartbeats 8000000 in
theorem lexLong_law (n : Int) (w : World) (hn : (Lit.int .u16 n).wf = true) (he : Env5 w) :
    Calls Tryz.prog 7 #[.int .u16 n] w fun e w' => e = .returned (.bool true) ∧ Below w.heap.size w w' := by
  have HE := hide he
  clear he
  have hn : 0 ≤ n ∧ n ≤ 65535 := by simpa [Lit.wf, IntKind.min, IntKind.max, IntKind.bits, IntKind.signed] using hn
  obtain ⟨i0, hi, hz0, hz1, hz2⟩ := byte_parts info5b
  go_enter Tryz.func7, Tryz.ntmps7
  go_upto_region 2 with fail
  obtain ⟨K, hK, hK7⟩ : ∃ K : Nat, n % 700 = (K : Int) ∧ K < 700 := ⟨(n % 700).toNat, by omega, by omega⟩
  rw [hK]
  clear hK hn
  go_wp2_with (at_make; refine wpList_make_own _ rfl _ _ 56 rfl w.heap.size 5 i0 (.int .u8 0) 1 Tryz.underlying56 hi hz0 hz1 _ _ _ K rfl rfl rfl (by rw [hz2]; omega) (by unfold maxLen; omega) (Nat.le_refl _) ?_)
  intro w0 hown0 hgrow0
  have bl0 : Below w.heap.size w w0 := (Below.refl _ _).grown hgrow0 (Nat.le_refl _) (fun k h => by cases h)
  have HB := hide bl0
  clear bl0 hown0 hgrow0
  have cv := conv_nil w0 ⟨w.heap.size, 0, none⟩ K
  go_wp2
  clear cv
  go_loop [4] (fun v => ∃ m : Nat, v = .string (onesB (2 * m)) ∧ 2 * m ≤ K + 1) (fun v => K + 2 - strLen v)
  case atStart => exact ⟨0, rfl, by omega⟩
  case round =>
    obtain ⟨m, rfl, hm⟩ := hrel
    have hz := onesB_size (2 * m)
    by_cases hlt : 2 * m < K
    · have HJ := hide (onesB_two m)
      have HZ2 := hide (onesB_size (2 * (m + 1)))
      have HZ := hide hz
      generalize onesB (2 * m) = ob at HJ HZ hz ⊢
      have hlti : (ob.size : Int) < (K : Int) := by omega
      have hos : ob.size ≤ 1000 := by omega
      have z1 : (⟨#[49, 32]⟩ : ByteArray).size = 2 := rfl
      have y1 : (9223372036854775807 < ob.size + (⟨#[49, 32]⟩ : ByteArray).size) = False := by rw [z1]; exact eq_false (by omega)
      have y3 : ob.size + (⟨#[49, 32]⟩ : ByteArray).size ≤ 9223372036854775807 := by rw [z1]; omega
      clear hz
      go_wp2
      go_round
      case rel => exact ⟨m + 1, by rw [← unhide HJ], by omega⟩
      case measure =>
        show K + 2 - (ob ++ (⟨#[49, 32]⟩ : ByteArray)).size < K + 2 - ob.size
        rw [unhide HJ, unhide HZ2, unhide HZ]
        omega
    · have hx := onesB_cut (2 * m) K (by omega)
      have hlti : ¬ ((onesB (2 * m)).size : Int) < (K : Int) := by omega
      have i1 : (0 : Int) ≤ (K : Int) := by omega
      have i2 : (K : Int) ≤ ((onesB (2 * m)).size : Int) := by omega
      clear hz
      go_upto_region 6 with fail
      clear hx hlti i2
      have HP := hide (fun w he => lex5_val (onesB K) w (by rw [onesB_size]; omega) he)
      have HPE := hide (ones_err K)
      rw [show (onesB K).data.toList = onesL K from rfl] at HP
      generalize lexT (onesL K) = X at HP HPE
      obtain ⟨ts, p, x⟩ := X
      have HPE : Hid (x = if K ≤ 512 then 0 else 7) := HPE
      go_wp2_with fail
      refine (unhide HP _ ((unhide HE).below (unhide HB))).mono ?_
      rintro e w1 ⟨v, rfl, HT, bb⟩
      replace HB := hide (below_nx (unhide HB) bb)
      clear bb HT HP
      obtain ⟨M, hM⟩ : ∃ M : Nat, min (K : Int) 400 = (M : Int) := ⟨min K 400, by omega⟩
      have hMK : M ≤ K := by omega
      have hM4 : M ≤ 400 := by omega
      have hxm := onesB_cut K M hMK
      have hzk := onesB_size K
      have hzm := onesB_size M
      have j1 : (0 : Int) ≤ (M : Int) := by omega
      have j2 : (M : Int) ≤ ((onesB K).size : Int) := by omega
      have z1 : (⟨#[34]⟩ : ByteArray).size = 1 := rfl
      have z2 : (⟨#[34]⟩ ++ onesB M : ByteArray).size = 1 + M := by rw [ByteArray.size_append, z1, hzm]
      have y1 : (9223372036854775807 < (⟨#[34]⟩ : ByteArray).size + (onesB M).size) = False := by rw [z1, hzm]; exact eq_false (by omega)
      have y2 : (9223372036854775807 < (⟨#[34]⟩ ++ onesB M : ByteArray).size + (⟨#[34]⟩ : ByteArray).size) = False := by rw [z1, z2]; exact eq_false (by omega)
      have y3 : (⟨#[34]⟩ : ByteArray).size + (onesB M).size ≤ 9223372036854775807 := by rw [z1, hzm]; omega
      have y4 : (⟨#[34]⟩ ++ onesB M : ByteArray).size + (⟨#[34]⟩ : ByteArray).size ≤ 9223372036854775807 := by rw [z1, z2]; omega
      clear hzk hzm
      have HQO := hide (quote_ones M)
      go_upto_region 8 with fail
      rw [unhide HQO]
      clear y1 y2 y3 y4 z1 z2 hxm j2 HQO
      have hlb : (⟨(34 :: (onesL M ++ [34])).toArray⟩ : ByteArray).size ≤ 1000 := by
        show (34 :: (onesL M ++ [34])).length ≤ 1000
        rw [List.length_cons, List.length_append, ones_len]
        simp only [List.length_singleton]; omega
      have HQ := hide (fun w he => lex5_val ⟨(34 :: (onesL M ++ [34])).toArray⟩ w hlb he)
      have HQE := hide (text_ones (onesL M) (fun c hc e => by rcases ones_mem M c hc with h | h <;> (rw [h] at e; revert e; decide)) (by rw [ones_len]; omega))
      rw [ones_len] at HQE
      rw [show (⟨(34 :: (onesL M ++ [34])).toArray⟩ : ByteArray).data.toList = 34 :: (onesL M ++ [34]) from rfl] at HQ
      generalize lexT (34 :: (onesL M ++ [34])) = Y at HQ HQE
      generalize (⟨(34 :: (onesL M ++ [34])).toArray⟩ : ByteArray) = qb at HQ ⊢
      obtain ⟨us, q, y⟩ := Y
      have HQE : Hid (y = if M ≤ 255 then 0 else 7) := HQE
      clear hlb
      go_wp2_with fail
      refine (unhide HQ _ ((unhide HE).below (unhide HB))).mono ?_
      rintro e w2 ⟨v2, rfl, HT, bb⟩
      replace HB := hide (below_nx (unhide HB) bb)
      clear bb HT HQ
      have HWK := hide wakes5
      go_upto_region 9 with fail
      by_cases h5 : K ≤ 512
      · have ex : x = 0 := by have := unhide HPE; rw [if_pos h5] at this; exact this
        subst ex
        have k5 : (K : Int) ≤ 512 := by omega
        by_cases h2 : M ≤ 255
        · have ey : y = 0 := by have := unhide HQE; rw [if_pos h2] at this; exact this
          subst ey
          have m2 : (M : Int) ≤ 255 := by omega
          clear h5 h2 HPE HQE
          go_wp2_with fail
          refine (unhide HWK _ ((unhide HE).below (unhide HB))).mono ?_
          rintro e w3 ⟨rfl, bb⟩
          replace HB := hide (below_nx (unhide HB) bb)
          clear bb
          go_wp2
          go_ret
          exact ⟨rfl, unhide HB⟩
        · have ey : y = 7 := by have := unhide HQE; rw [if_neg h2] at this; exact this
          subst ey
          have m2 : ¬ (M : Int) ≤ 255 := by omega
          have m3 : decide ((M : Int) ≤ 255) = false := decide_eq_false m2
          clear h5 h2 HPE HQE
          go_wp2_with fail
          refine (unhide HWK _ ((unhide HE).below (unhide HB))).mono ?_
          rintro e w3 ⟨rfl, bb⟩
          replace HB := hide (below_nx (unhide HB) bb)
          clear bb
          go_wp2
          go_ret
          exact ⟨rfl, unhide HB⟩
      · have ex : x = 7 := by have := unhide HPE; rw [if_neg h5] at this; exact this
        subst ex
        have k5 : ¬ (K : Int) ≤ 512 := by omega
        have k6 : decide ((K : Int) ≤ 512) = false := decide_eq_false k5
        have h2 : ¬ M ≤ 255 := by omega
        have ey : y = 7 := by have := unhide HQE; rw [if_neg h2] at this; exact this
        subst ey
        have m2 : ¬ (M : Int) ≤ 255 := by omega
        have m3 : decide ((M : Int) ≤ 255) = false := decide_eq_false m2
        clear h5 h2 HPE HQE
        go_wp2_with fail
        refine (unhide HWK _ ((unhide HE).below (unhide HB))).mono ?_
        rintro e w3 ⟨rfl, bb⟩
        replace HB := hide (below_nx (unhide HB) bb)
        clear bb
        go_wp2
        go_ret
        exact ⟨rfl, unhide HB⟩
end Go.Proofs.YtgoaefpkhjbkjaaGreatDoor
