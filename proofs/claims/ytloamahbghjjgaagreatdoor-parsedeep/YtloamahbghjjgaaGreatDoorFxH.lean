/- The contract of (Num).Text. -/
import Derived.Test.YtloamahbghjjgaaGreatDoorFxZ
import Derived.Test.YtloamahbghjjgaaGreatDoorFxG
namespace Go.Proofs.YtloamahbghjjgaaGreatDoor
open Go.RowKit

theorem tab_below {w w' : World} (h : powTab w) (hb : Below w.heap.size w w') : powTab w' := by
  unfold powTab Lib.TabIs World.var? at *
  cases hg : Tryz.prog.globalNamed "internal/strconv.uint64pow10" with
  | none => simp [hg] at h
  | some g =>
    simp only [hg, Option.bind_some] at h ⊢
    have hlt : g < w.heap.size := by
      rcases Nat.lt_or_ge g w.heap.size with h' | h'
      · exact h'
      · rw [Array.getElem?_eq_none h'] at h; simp at h
    rw [hb.block g hlt]
    exact h

theorem ba_app (x y : List UInt8) : (⟨x.toArray⟩ : ByteArray) ++ ⟨y.toArray⟩ = ⟨(x ++ y).toArray⟩ := by
  apply ByteArray.ext; simp
theorem ba_extract (x : List UInt8) (i n : Nat) (h : n = x.length) : (⟨x.toArray⟩ : ByteArray).extract i n = ⟨(x.drop i).toArray⟩ := by
  subst h
  apply ByteArray.ext
  simp only [ByteArray.data_extract, List.extract_toArray, List.extract_eq_take_drop]
  rw [List.take_of_length_le (by simp)]
theorem dec_len (u : Nat) (h : u < 18446744073709551616) : 1 ≤ (Lib.decDigits u).length ∧ (Lib.decDigits u).length ≤ 20 := by
  rw [Lib.decDigits_length]
  by_cases h1 : 1 ≤ u
  · have := Lib.numDigits_eq u h1 h
    refine ⟨?_, by split at this <;> omega⟩
    by_cases h0 : Lib.nDigits u = 0
    · have := Lib.lt_pow_nDigits u; rw [h0] at this; omega
    · omega
  · have : u = 0 := by omega
    subst this
    decide +kernel

theorem trim_len (l : List UInt8) : (Lib.trimRightB l 48).length ≤ l.length := by
  unfold Lib.trimRightB
  rw [List.length_reverse]
  have h : l.reverse.length = l.length := List.length_reverse
  have := (List.dropWhile_sublist (fun b => b == (48 : UInt8)) (l := l.reverse)).length_le
  omega

theorem ret_str {a b : ByteArray} (h : a = b) : Ending.returned (.string a) = .returned (.string b) := by rw [h]
theorem below_then {w a b : World} (h : Below w.heap.size w a) (k : Below a.heap.size a b) : Below w.heap.size w b := h.trans (k.mono h.size)

/-- The parts behind the full stop, and the stop. -/
def fracL (r : Nat) : List UInt8 := if r = 0 then [] else 46 :: Lib.trimRightB ((Lib.decDigits (10000 + r)).drop 1) 48
def absL (p : Nat) : List UInt8 := Lib.decDigits (p / 10000) ++ fracL (p % 10000)
def textL (a : Int) : List UInt8 := if goodB a = true then (if a < 0 then 45 :: absL a.natAbs else absL a.natAbs) else []

set_option maxHeartbeats 1000000 in
theorem text_any (a : Int) (w : World) (htab : powTab w) :
    Calls Tryz.prog 207 #[.int .i64 a] w fun e w' => e = .returned (.string ⟨(textL a).toArray⟩) ∧ Below w.heap.size w w' := by
  cases hg : goodB a
  · have hs : textL a = [] := by unfold textL; rw [hg]; rfl
    have HG := hide hg
    rw [hs]
    clear hg hs htab
    go_enter Tryz.func207, Tryz.ntmps207
    go_wp2_with fail
    refine (good1_any _ _ _).mono ?_
    rintro e w' ⟨rfl, rfl⟩
    rw [unhide HG]
    go_wp2
    go_ret
    exact ⟨rfl, below_alloc _ _⟩
  · have HG := hide hg
    have HT := hide htab
    rw [goodB_iff] at hg
    obtain ⟨a1, a2⟩ := hg
    obtain ⟨p, hp⟩ : ∃ p : Nat, a.natAbs = p := ⟨_, rfl⟩
    have hs : textL a = (if a < 0 then 45 :: absL p else absL p) := by unfold textL; rw [unhide HG, hp]; rfl
    rw [hs]
    have hpb : p ≤ 9000000000000000000 := by omega
    have HP := hide hp
    clear hs htab hp
    have H10 : Hid ((p : Int) / 10000 = ((p / 10000 : Nat) : Int)) := hide (by omega)
    have H11 : Hid (10000 + (p : Int) % 10000 = ((10000 + p % 10000 : Nat) : Int)) := hide (by omega)
    by_cases hr : p % 10000 = 0
    · have hrr : ((p : Int) % 10000 == 0) = true := by rw [beq_iff_eq]; omega
      have hL : absL p = Lib.decDigits (p / 10000) := by unfold absL fracL; rw [if_pos hr, List.append_nil]
      rw [hL]
      have HL := hide hL
      have HR := hide hr
      clear hL hr
      by_cases hn : a < 0
      · rw [if_pos hn]
        go_enter Tryz.func207, Tryz.ntmps207
        go_wp2_with fail
        refine (good1_any _ _ _).mono ?_
        rintro e w' ⟨rfl, rfl⟩
        rw [unhide HG]
        go_wp2_with fail
        refine (size_any a _ a1 a2).mono ?_
        rintro e w2 ⟨rfl, rfl⟩
        rw [unhide HP]
        go_wp2_with fail
        rw [unhide H10]
        refine (formatUint_any (p / 10000) _ (by omega) (tab_below (unhide HT) (below_alloc _ _))).mono ?_
        rintro e w2 ⟨rfl, hb⟩
        have hDl := dec_len (p / 10000) (by omega)
        generalize hD : Lib.decDigits (p / 10000) = D at *
        obtain ⟨hD1, hD2⟩ := hDl
        have HD := hide hD
        clear hD
        go_wp2
        go_ret
        exact ⟨ret_str (by rw [unhide HD]; exact ba_app [45] D), below_tr rfl hb⟩
      · rw [if_neg hn]
        go_enter Tryz.func207, Tryz.ntmps207
        go_wp2_with fail
        refine (good1_any _ _ _).mono ?_
        rintro e w' ⟨rfl, rfl⟩
        rw [unhide HG]
        go_wp2_with fail
        refine (size_any a _ a1 a2).mono ?_
        rintro e w2 ⟨rfl, rfl⟩
        rw [unhide HP]
        go_wp2_with fail
        rw [unhide H10]
        refine (formatUint_any (p / 10000) _ (by omega) (tab_below (unhide HT) (below_alloc _ _))).mono ?_
        rintro e w2 ⟨rfl, hb⟩
        have hDl := dec_len (p / 10000) (by omega)
        generalize hD : Lib.decDigits (p / 10000) = D at *
        obtain ⟨hD1, hD2⟩ := hDl
        have HD := hide hD
        clear hD
        go_wp2
        go_ret
        exact ⟨ret_str (by rw [unhide HD]), below_tr rfl hb⟩
    · have hrr : ((p : Int) % 10000 == 0) = false := by rw [beq_eq_false_iff_ne]; omega
      have hL : absL p = Lib.decDigits (p / 10000) ++ 46 :: Lib.trimRightB ((Lib.decDigits (10000 + p % 10000)).drop 1) 48 := by unfold absL fracL; rw [if_neg hr]
      rw [hL]
      have HL := hide hL
      have HR := hide hr
      clear hL hr
      by_cases hn : a < 0
      · rw [if_pos hn]
        go_enter Tryz.func207, Tryz.ntmps207
        go_wp2_with fail
        refine (good1_any _ _ _).mono ?_
        rintro e w' ⟨rfl, rfl⟩
        rw [unhide HG]
        go_wp2_with fail
        refine (size_any a _ a1 a2).mono ?_
        rintro e w2 ⟨rfl, rfl⟩
        rw [unhide HP]
        go_wp2_with fail
        rw [unhide H10]
        refine (formatUint_any (p / 10000) _ (by omega) (tab_below (unhide HT) (below_alloc _ _))).mono ?_
        rintro e w2 ⟨rfl, hb⟩
        have hDl := dec_len (p / 10000) (by omega)
        generalize hD : Lib.decDigits (p / 10000) = D at *
        obtain ⟨hD1, hD2⟩ := hDl
        have HD := hide hD
        clear hD
        go_wp2_with fail
        rw [unhide H11]
        refine (formatUint_any (10000 + p % 10000) _ (by omega) (tab_below (unhide HT) (below_tr rfl hb))).mono ?_
        rintro e w3 ⟨rfl, hb2⟩
        have hEl := dec_len (10000 + p % 10000) (by omega)
        generalize hE : Lib.decDigits (10000 + p % 10000) = E at *
        obtain ⟨hE1, hE2⟩ := hEl
        have HE := hide hE
        clear hE
        go_wp2_with fail
        rw [ba_extract E 1 E.length rfl]
        refine (Tryz.strings_TrimRight_one _ 48 (by decide) _ (by simp [ByteArray.size]; omega)).mono ?_
        rintro e w4 ⟨rfl, rfl⟩
        have hTl := trim_len (E.drop 1)
        have hEd : (E.drop 1).length ≤ 20 := by simp; omega
        generalize hT : Lib.trimRightB (E.drop 1) 48 = T at *
        have hTl' : T.length ≤ 20 := by omega
        have HTT := hide hT
        clear hT hTl hEd
        go_wp2
        go_ret
        exact ⟨ret_str (by rw [unhide HD, unhide HE, unhide HTT]; apply ByteArray.ext; simp), below_then (below_tr rfl hb) hb2⟩
      · rw [if_neg hn]
        go_enter Tryz.func207, Tryz.ntmps207
        go_wp2_with fail
        refine (good1_any _ _ _).mono ?_
        rintro e w' ⟨rfl, rfl⟩
        rw [unhide HG]
        go_wp2_with fail
        refine (size_any a _ a1 a2).mono ?_
        rintro e w2 ⟨rfl, rfl⟩
        rw [unhide HP]
        go_wp2_with fail
        rw [unhide H10]
        refine (formatUint_any (p / 10000) _ (by omega) (tab_below (unhide HT) (below_alloc _ _))).mono ?_
        rintro e w2 ⟨rfl, hb⟩
        have hDl := dec_len (p / 10000) (by omega)
        generalize hD : Lib.decDigits (p / 10000) = D at *
        obtain ⟨hD1, hD2⟩ := hDl
        have HD := hide hD
        clear hD
        go_wp2_with fail
        rw [unhide H11]
        refine (formatUint_any (10000 + p % 10000) _ (by omega) (tab_below (unhide HT) (below_tr rfl hb))).mono ?_
        rintro e w3 ⟨rfl, hb2⟩
        have hEl := dec_len (10000 + p % 10000) (by omega)
        generalize hE : Lib.decDigits (10000 + p % 10000) = E at *
        obtain ⟨hE1, hE2⟩ := hEl
        have HE := hide hE
        clear hE
        go_wp2_with fail
        rw [ba_extract E 1 E.length rfl]
        refine (Tryz.strings_TrimRight_one _ 48 (by decide) _ (by simp [ByteArray.size]; omega)).mono ?_
        rintro e w4 ⟨rfl, rfl⟩
        have hTl := trim_len (E.drop 1)
        have hEd : (E.drop 1).length ≤ 20 := by simp; omega
        generalize hT : Lib.trimRightB (E.drop 1) 48 = T at *
        have hTl' : T.length ≤ 20 := by omega
        have HTT := hide hT
        clear hT hTl hEd
        go_wp2
        go_ret
        exact ⟨ret_str (by rw [unhide HD, unhide HE, unhide HTT]; apply ByteArray.ext; simp), below_then (below_tr rfl hb) hb2⟩
end Go.Proofs.YtloamahbghjjgaaGreatDoor
