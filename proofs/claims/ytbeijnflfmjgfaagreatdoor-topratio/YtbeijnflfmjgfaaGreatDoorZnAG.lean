/- The contracts of the reference's Show, of layer 3. -/
import Derived.BigQuiet
import Derived.BigRegion
import Derived.Deep.CutBlock
import Derived.Deep.CutRange
import Derived.Deep.DeepFit
import Derived.Deep.QuietTactic
import Derived.Laws.Bits64b
import Derived.Laws.IdiomStrings
import Derived.Laws.Rows
import Derived.Lib.BitFns
import Derived.Lib.IndexBytes
import Derived.Lib.ItoaMem
import Derived.Lib.ItoaNum
import Derived.Lib.Walk
import Derived.Shelf.Bits.Mul64
import Derived.Shelf.LaysM
import Derived.Shelf.Small.Bits
import Derived.Shelf.Small.Strs
import Derived.Shelf.Small.Wraps
import Derived.Shelf.Strconv.Itoa0
import Derived.Shelf.Strconv.Itoa1
import Derived.Shelf.Strconv.Itoa2
import Derived.Shelf.Strings.AsciiSet
import Derived.Shelf.Strings.Cut
import Derived.Shelf.Strings.Prefix
import Derived.Shelf.Strings.Search1
import Derived.Shelf.Strings.Search2
import Derived.Shelf.Strings.Shaped
import Derived.Shelf.Strings.Trim
import Derived.Test.YtbeijnflfmjgfaaGreatDoorProg
import Derived.Test.YtbeijnflfmjgfaaGreatDoorRows
import Derived.WalkKit
import Derived.WalkLawsBesides
import Derived.WalkSmall
import Derived.WalkSpells
import Derived.Test.YtbeijnflfmjgfaaGreatDoorZnAA
import Derived.Test.YtbeijnflfmjgfaaGreatDoorZnAB
import Derived.Test.YtbeijnflfmjgfaaGreatDoorZnAC
import Derived.Test.YtbeijnflfmjgfaaGreatDoorZnAD
import Derived.Test.YtbeijnflfmjgfaaGreatDoorZnAE
import Derived.Test.YtbeijnflfmjgfaaGreatDoorZnAF
namespace Go.Proofs.YtbeijnflfmjgfaaGreatDoor
open Go.RowKit

def showV (u : Vl) : ByteArray :=
  if u.kind = 1 then ⟨(textL u.num).toArray⟩ else if u.kind = 2 then u.text else if u.kind = 3 then (if u.tr = true then ⟨#[84, 82, 85, 69]⟩ else ⟨#[70, 65, 76, 83, 69]⟩) else if u.kind = 4 then signV u.fail else noText
theorem sound_size (v : Vl) (h : v.text.size ≤ 1000000) : (vSound v).text.size ≤ 1000000 := by
  unfold vSound
  split
  · exact h
  · show noText.size ≤ 1000000; decide

set_option maxRecDepth 100000 in
set_option maxHeartbeats 4000000 in
theorem show_ref (v : Vl) (w : World) (hs : v.text.size ≤ 1000000) :
    Calls Tryz.prog 76 #[.agg v.cells] w fun e w' => e = .returned (.string (showV (vSound v))) ∧ Below w.heap.size w w' := by
  obtain ⟨u, hu⟩ : ∃ u, vSound v = u := ⟨_, rfl⟩
  have HS := hide (fun w => sound_ref v w hs)
  have HTX : Hid (u.text.size ≤ 1000000) := hide (by rw [← hu]; exact sound_size v hs)
  rw [hu] at HS ⊢
  clear hu
  unfold Vl.cells at HS ⊢
  cases h1 : (u.kind == 1)
  · have n1 : u.kind ≠ 1 := by rw [beq_eq_false_iff_ne] at h1; exact h1
    cases h2 : (u.kind == 2)
    · have n2 : u.kind ≠ 2 := by rw [beq_eq_false_iff_ne] at h2; exact h2
      cases h3 : (u.kind == 3)
      · have n3 : u.kind ≠ 3 := by rw [beq_eq_false_iff_ne] at h3; exact h3
        cases h4 : (u.kind == 4)
        · have n4 : u.kind ≠ 4 := by rw [beq_eq_false_iff_ne] at h4; exact h4
          have E : Hid (showV u = noText) := hide (by unfold showV; rw [if_neg n1, if_neg n2, if_neg n3, if_neg n4])
          clear n1 n2 n3 n4
          go_enter Tryz.func76, Tryz.ntmps76
          go_wp2_with fail
          refine (unhide HS _).mono ?_
          rintro e w1 ⟨rfl, b1⟩
          have hf := five_below (five_new w 29 (.int .i64 v.kind) (.int .i64 v.num) (.string v.text) (.bool v.tr) (.int .i64 v.fail)) b1 (by simp)
          have HB := hide (below_five ((below_al w (.cells #[.int .i64 v.kind, .int .i64 v.num, .string v.text, .bool v.tr, .int .i64 v.fail] 29)).trans (b1.mono (by simp))) (Nat.le_refl _) (.int .i64 u.kind) (.int .i64 u.num) (.string u.text) (.bool u.tr) (.int .i64 u.fail))
          have HF := hide (five_set hf (.int .i64 u.kind) (.int .i64 u.num) (.string u.text) (.bool u.tr) (.int .i64 u.fail))
          obtain ⟨x0, c0⟩ := five_c hf 0 (by omega)
          obtain ⟨x1, c1⟩ := five_c hf 1 (by omega)
          obtain ⟨x2, c2⟩ := five_c hf 2 (by omega)
          obtain ⟨x3, c3⟩ := five_c hf 3 (by omega)
          obtain ⟨x4, c4⟩ := five_c hf 4 (by omega)
          have f0 := five_f hf 0
          have f1 := five_f hf 1
          have f2 := five_f hf 2
          have f3 := five_f hf 3
          have f4 := five_f hf 4
          clear hf b1
          go_wp2
          go_ret
          exact ⟨by rw [unhide E]; rfl, unhide HB⟩
        · have k4 : u.kind = 4 := by rw [beq_iff_eq] at h4; exact h4
          have E : Hid (showV u = signV u.fail) := hide (by unfold showV; rw [if_neg n1, if_neg n2, if_neg n3, if_pos k4])
          clear n1 n2 n3 k4
          go_enter Tryz.func76, Tryz.ntmps76
          go_wp2_with fail
          refine (unhide HS _).mono ?_
          rintro e w1 ⟨rfl, b1⟩
          have hf := five_below (five_new w 29 (.int .i64 v.kind) (.int .i64 v.num) (.string v.text) (.bool v.tr) (.int .i64 v.fail)) b1 (by simp)
          have HB := hide (below_five ((below_al w (.cells #[.int .i64 v.kind, .int .i64 v.num, .string v.text, .bool v.tr, .int .i64 v.fail] 29)).trans (b1.mono (by simp))) (Nat.le_refl _) (.int .i64 u.kind) (.int .i64 u.num) (.string u.text) (.bool u.tr) (.int .i64 u.fail))
          have HF := hide (five_set hf (.int .i64 u.kind) (.int .i64 u.num) (.string u.text) (.bool u.tr) (.int .i64 u.fail))
          obtain ⟨x0, c0⟩ := five_c hf 0 (by omega)
          obtain ⟨x1, c1⟩ := five_c hf 1 (by omega)
          obtain ⟨x2, c2⟩ := five_c hf 2 (by omega)
          obtain ⟨x3, c3⟩ := five_c hf 3 (by omega)
          obtain ⟨x4, c4⟩ := five_c hf 4 (by omega)
          have f0 := five_f hf 0
          have f1 := five_f hf 1
          have f2 := five_f hf 2
          have f3 := five_f hf 3
          have f4 := five_f hf 4
          clear hf b1
          go_wp2_with fail
          refine (signs_ref u.fail _).mono ?_
          rintro e w2 ⟨rfl, b2⟩
          have HB2 := hide (below_nx (unhide HB) b2)
          clear b2
          go_wp2
          go_ret
          exact ⟨by rw [unhide E]; rfl, unhide HB2⟩
      · have k3 : u.kind = 3 := by rw [beq_iff_eq] at h3; exact h3
        have E : Hid (showV u = (if u.tr = true then (⟨#[84, 82, 85, 69]⟩ : ByteArray) else ⟨#[70, 65, 76, 83, 69]⟩)) := hide (by unfold showV; rw [if_neg n1, if_neg n2, if_pos k3])
        clear n1 n2 k3
        cases hb : u.tr
        · have E2 : Hid (showV u = (⟨#[70, 65, 76, 83, 69]⟩ : ByteArray)) := hide (by rw [unhide E, hb]; rfl)
          go_enter Tryz.func76, Tryz.ntmps76
          go_wp2_with fail
          refine (unhide HS _).mono ?_
          rintro e w1 ⟨rfl, b1⟩
          have hf := five_below (five_new w 29 (.int .i64 v.kind) (.int .i64 v.num) (.string v.text) (.bool v.tr) (.int .i64 v.fail)) b1 (by simp)
          have HB := hide (below_five ((below_al w (.cells #[.int .i64 v.kind, .int .i64 v.num, .string v.text, .bool v.tr, .int .i64 v.fail] 29)).trans (b1.mono (by simp))) (Nat.le_refl _) (.int .i64 u.kind) (.int .i64 u.num) (.string u.text) (.bool u.tr) (.int .i64 u.fail))
          have HF := hide (five_set hf (.int .i64 u.kind) (.int .i64 u.num) (.string u.text) (.bool u.tr) (.int .i64 u.fail))
          obtain ⟨x0, c0⟩ := five_c hf 0 (by omega)
          obtain ⟨x1, c1⟩ := five_c hf 1 (by omega)
          obtain ⟨x2, c2⟩ := five_c hf 2 (by omega)
          obtain ⟨x3, c3⟩ := five_c hf 3 (by omega)
          obtain ⟨x4, c4⟩ := five_c hf 4 (by omega)
          have f0 := five_f hf 0
          have f1 := five_f hf 1
          have f2 := five_f hf 2
          have f3 := five_f hf 3
          have f4 := five_f hf 4
          clear hf b1
          rw [hb] at HB HF
          go_wp2
          go_ret
          exact ⟨by rw [unhide E2]; rfl, unhide HB⟩
        · have E2 : Hid (showV u = (⟨#[84, 82, 85, 69]⟩ : ByteArray)) := hide (by rw [unhide E, hb]; rfl)
          go_enter Tryz.func76, Tryz.ntmps76
          go_wp2_with fail
          refine (unhide HS _).mono ?_
          rintro e w1 ⟨rfl, b1⟩
          have hf := five_below (five_new w 29 (.int .i64 v.kind) (.int .i64 v.num) (.string v.text) (.bool v.tr) (.int .i64 v.fail)) b1 (by simp)
          have HB := hide (below_five ((below_al w (.cells #[.int .i64 v.kind, .int .i64 v.num, .string v.text, .bool v.tr, .int .i64 v.fail] 29)).trans (b1.mono (by simp))) (Nat.le_refl _) (.int .i64 u.kind) (.int .i64 u.num) (.string u.text) (.bool u.tr) (.int .i64 u.fail))
          have HF := hide (five_set hf (.int .i64 u.kind) (.int .i64 u.num) (.string u.text) (.bool u.tr) (.int .i64 u.fail))
          obtain ⟨x0, c0⟩ := five_c hf 0 (by omega)
          obtain ⟨x1, c1⟩ := five_c hf 1 (by omega)
          obtain ⟨x2, c2⟩ := five_c hf 2 (by omega)
          obtain ⟨x3, c3⟩ := five_c hf 3 (by omega)
          obtain ⟨x4, c4⟩ := five_c hf 4 (by omega)
          have f0 := five_f hf 0
          have f1 := five_f hf 1
          have f2 := five_f hf 2
          have f3 := five_f hf 3
          have f4 := five_f hf 4
          clear hf b1
          rw [hb] at HB HF
          go_wp2
          go_ret
          exact ⟨by rw [unhide E2]; rfl, unhide HB⟩
    · have k2 : u.kind = 2 := by rw [beq_iff_eq] at h2; exact h2
      have E : Hid (showV u = u.text) := hide (by unfold showV; rw [if_neg n1, if_pos k2])
      clear n1 k2
      go_enter Tryz.func76, Tryz.ntmps76
      go_wp2_with fail
      refine (unhide HS _).mono ?_
      rintro e w1 ⟨rfl, b1⟩
      have hf := five_below (five_new w 29 (.int .i64 v.kind) (.int .i64 v.num) (.string v.text) (.bool v.tr) (.int .i64 v.fail)) b1 (by simp)
      have HB := hide (below_five ((below_al w (.cells #[.int .i64 v.kind, .int .i64 v.num, .string v.text, .bool v.tr, .int .i64 v.fail] 29)).trans (b1.mono (by simp))) (Nat.le_refl _) (.int .i64 u.kind) (.int .i64 u.num) (.string u.text) (.bool u.tr) (.int .i64 u.fail))
      have HF := hide (five_set hf (.int .i64 u.kind) (.int .i64 u.num) (.string u.text) (.bool u.tr) (.int .i64 u.fail))
      obtain ⟨x0, c0⟩ := five_c hf 0 (by omega)
      obtain ⟨x1, c1⟩ := five_c hf 1 (by omega)
      obtain ⟨x2, c2⟩ := five_c hf 2 (by omega)
      obtain ⟨x3, c3⟩ := five_c hf 3 (by omega)
      obtain ⟨x4, c4⟩ := five_c hf 4 (by omega)
      have f0 := five_f hf 0
      have f1 := five_f hf 1
      have f2 := five_f hf 2
      have f3 := five_f hf 3
      have f4 := five_f hf 4
      clear hf b1
      go_wp2
      go_ret
      exact ⟨by rw [unhide E]; rfl, unhide HB⟩
  · have k1 : u.kind = 1 := by rw [beq_iff_eq] at h1; exact h1
    have E : Hid (showV u = (⟨(textL u.num).toArray⟩ : ByteArray)) := hide (by unfold showV; rw [if_pos k1])
    clear k1
    go_enter Tryz.func76, Tryz.ntmps76
    go_wp2_with fail
    refine (unhide HS _).mono ?_
    rintro e w1 ⟨rfl, b1⟩
    have hf := five_below (five_new w 29 (.int .i64 v.kind) (.int .i64 v.num) (.string v.text) (.bool v.tr) (.int .i64 v.fail)) b1 (by simp)
    have HB := hide (below_five ((below_al w (.cells #[.int .i64 v.kind, .int .i64 v.num, .string v.text, .bool v.tr, .int .i64 v.fail] 29)).trans (b1.mono (by simp))) (Nat.le_refl _) (.int .i64 u.kind) (.int .i64 u.num) (.string u.text) (.bool u.tr) (.int .i64 u.fail))
    have HF := hide (five_set hf (.int .i64 u.kind) (.int .i64 u.num) (.string u.text) (.bool u.tr) (.int .i64 u.fail))
    obtain ⟨x0, c0⟩ := five_c hf 0 (by omega)
    obtain ⟨x1, c1⟩ := five_c hf 1 (by omega)
    obtain ⟨x2, c2⟩ := five_c hf 2 (by omega)
    obtain ⟨x3, c3⟩ := five_c hf 3 (by omega)
    obtain ⟨x4, c4⟩ := five_c hf 4 (by omega)
    have f0 := five_f hf 0
    have f1 := five_f hf 1
    have f2 := five_f hf 2
    have f3 := five_f hf 3
    have f4 := five_f hf 4
    clear hf b1
    go_wp2_with fail
    refine (text_ref u.num _).mono ?_
    rintro e w2 ⟨rfl, b2⟩
    have HB2 := hide (below_nx (unhide HB) b2)
    clear b2
    go_wp2
    go_ret
    exact ⟨by rw [unhide E]; rfl, unhide HB2⟩
end Go.Proofs.YtbeijnflfmjgfaaGreatDoor

namespace Go.Proofs.YtbeijnflfmjgfaaGreatDoor
open Go.RowKit

theorem at_eq (s : ByteArray) (l : List UInt8) (h : s.data.toList = l) (k : Nat) (hk : k < s.size) (hk' : k < l.length) : l[k] = s[k] := by
  subst h; rfl
theorem cut_list (s : ByteArray) (i j : Nat) : (s.extract i j).data.toList = (s.data.toList.take j).drop i := by
  rw [ByteArray.data_extract, Array.toList_extract, List.extract_eq_drop_take']
theorem at_whole (s : ByteArray) (t W P : List UInt8) (dot : Bool) (ht : s.data.toList = t) (h : CutAt t W P dot) (k : Nat) (hk : k < W.length) (h1 : k < s.size) : s[k].toNat ≠ 46 := by
  have hkt : k < t.length := by rw [← ht]; exact h1
  have e : t[k] = W[k] := by
    cases hd : dot
    · have := (h.no hd).1; subst this; rfl
    · have := h.yes hd; subst this; exact List.getElem_append_left hk
  rw [← at_eq s t ht k h1 hkt, e]
  intro h2
  exact h.noW _ (List.getElem_mem hk) (UInt8.toNat_inj.1 h2)
theorem at_dot (s : ByteArray) (t W P : List UInt8) (dot : Bool) (ht : s.data.toList = t) (h : CutAt t W P dot) (k : Nat) (hk : W.length = k) (h1 : k < s.size) : s[k].toNat = 46 := by
  have hkt : k < t.length := by rw [← ht]; exact h1
  rw [← at_eq s t ht k h1 hkt]
  cases hd : dot
  · have := (h.no hd).1; subst this; omega
  · have := h.yes hd
    subst this
    rw [List.getElem_append_right (by omega)]
    simp [hk]

theorem slice_whole (s : ByteArray) (t W P : List UInt8) (dot : Bool) (ht : s.data.toList = t) (h : CutAt t W P dot) (k : Nat) (hk : W.length = k) : (s.extract 0 k).data.toList = W := by
  rw [cut_list, ht, List.drop_zero]
  cases hd : dot
  · have := (h.no hd).1; subst this; exact List.take_of_length_le (by omega)
  · have := h.yes hd; subst this; subst hk; exact List.take_left
theorem slice_part (s : ByteArray) (t W P : List UInt8) (ht : s.data.toList = t) (h : CutAt t W P true) (k : Nat) (hk : W.length = k) : (s.extract (k + 1) s.size).data.toList = P := by
  have hs : s.size = t.length := by rw [← ht]; rfl
  rw [cut_list, ht, List.take_of_length_le (by omega)]
  have := h.yes rfl
  subst this; subst hk
  rw [← List.drop_drop, List.drop_left]
  rfl
theorem dot_lt (s : ByteArray) (t W P : List UInt8) (ht : s.data.toList = t) (h : CutAt t W P true) (k : Nat) (hk : W.length = k) : k < s.size := by
  have hs : s.size = t.length := by rw [← ht]; rfl
  have := congrArg List.length (h.yes rfl)
  simp at this
  omega

theorem nodot_ge (s : ByteArray) (t W P : List UInt8) (ht : s.data.toList = t) (h : CutAt t W P false) (k : Nat) (hk : W.length = k) : ¬ k < s.size := by
  have hs : s.size = t.length := by rw [← ht]; rfl
  have := congrArg List.length (h.no rfl).1
  omega
theorem at_dig (s : ByteArray) (P : List UInt8) (h : s.data.toList = P) (hd : P.all isDig = true) (m : Nat) (hm : m < s.size) : 48 ≤ s[m].toNat ∧ s[m].toNat ≤ 57 := by
  have hm' : m < P.length := by rw [← h]; exact hm
  rw [← at_eq s P h m hm hm']
  exact isDig_at P hd m hm'
theorem revD_at (x : List UInt8) (m : Nat) (hm : m < x.length) : revD x m = revD x (m + 1) ++ [dgt x[m]] := revD_step x (m + 1) (by omega) (by omega)
def bothD (P W : List UInt8) (k : Nat) : List Int := revD P 0 ++ revD W k
theorem both_facts (P W : List UInt8) (hP : P.all isDig = true) (hW : W.all isDig = true) (h1 : P.length ≤ 18) (h2 : W.length ≤ 18) :
    Dc.Dig (bothD P W 0) ∧ Dc.val (bothD P W 0) = ((numL W * 10 ^ P.length + numL P : Nat) : Int) ∧ (bothD P W 0).length ≤ 36 := by
  refine ⟨dig_append (revD_dig P hP 0) (revD_dig W hW 0), both_val W P hW hP, ?_⟩
  unfold bothD
  rw [List.length_append, revD_len, revD_len]
  omega
theorem dgt_at (s : ByteArray) (P : List UInt8) (h : s.data.toList = P) (m : Nat) (hm : m < s.size) {hm' : m < P.length} : dgt P[m] = (s[m].toNat : Int) - 48 := by
  rw [at_eq s P h m hm hm']; rfl

set_option maxRecDepth 100000 in
set_option maxHeartbeats 2000000 in
theorem parse_ref (s : ByteArray) (w : World) (hs : s.size ≤ 1000) :
    Calls Tryz.prog 79 #[.string s] w fun e w' => PairPost (parseR s.data.toList) w e w' := by
  obtain ⟨i0, hi, hz0, hz1, hz2⟩ := info_parts info3
  obtain ⟨l, hl⟩ : ∃ l, s.data.toList = l := ⟨_, rfl⟩
  have hsz : s.size = l.length := by rw [← hl]; rfl
  rw [hl]
  have HL := hide hl
  have HSZ := hide hsz
  clear hl hsz
  go_enter Tryz.func79, Tryz.ntmps79
  go_upto_region 1 with fail
  go_cut [4] from 17 (fun v wx => v = .bool (negOf l) ∧ wx = w)
  case first =>
    by_cases h0 : s.size = 0
    · have hn : Hid (negOf l = false) := hide (by
        have : l = [] := List.eq_nil_of_length_eq_zero (by have := unhide HSZ; omega)
        rw [this]; rfl)
      have h0' : ¬ (0 < s.size) := by omega
      go_wp2
      go_meet
      case rel => exact ⟨by rw [unhide hn], rfl⟩
    · have h0' : 0 < s.size := by omega
      have hn : Hid (negOf l = (s[0] == 45)) := hide (by
        have e : l = s[0] :: l.drop 1 := by
          have h1 : 0 < l.length := by rw [← unhide HSZ]; exact h0'
          have := List.drop_eq_getElem_cons h1
          rw [List.drop_zero] at this
          have h2 : l[0] = s[0] := at_eq s l (unhide HL) 0 h0' h1
          rw [← h2]; exact this
        rw [e]; exact neg_cons _ _)
      clear h0
      by_cases hc : s[0].toNat = 45
      · have hn2 : Hid (negOf l = true) := hide (by rw [unhide hn, beq_iff_eq]; exact UInt8.toNat_inj.1 hc)
        clear hn
        go_wp2
        go_meet
        case rel => exact ⟨by rw [unhide hn2], rfl⟩
      · have hn2 : Hid (negOf l = false) := hide (by rw [unhide hn, beq_eq_false_iff_ne]; intro h; exact hc (by rw [h]; rfl))
        have hcb : ((s[0].toNat : Int) == 45) = false := by rw [beq_eq_false_iff_ne]; omega
        clear hn hc
        go_wp2
        go_meet
        case rel => exact ⟨by rw [unhide hn2], rfl⟩
  case rest =>
    obtain ⟨neg, hneg⟩ : ∃ neg, negOf l = neg := ⟨_, rfl⟩
    obtain ⟨rfl, rfl⟩ := hcut
    rw [hneg]
    have HNEG := hide hneg
    clear hneg
    go_upto_if 25 with fail
    go_cut [0] from 26 (fun v wx => (∃ s1 : ByteArray, v = .string s1 ∧ s1.size ≤ 1000 ∧ Hid (s1.data.toList = Lib.trimPrefix l [45])) ∧ wx = wc)
    case first =>
      cases neg
      · have HN := HNEG
        go_wp2
        go_meet
        case rel => exact ⟨⟨s, rfl, hs, hide (by rw [neg_no l (unhide HN)]; exact unhide HL)⟩, rfl⟩
      · have HN := HNEG
        have h1 : 1 ≤ s.size := by
          rcases Nat.lt_or_ge 0 s.size with h | h
          · exact h
          · exfalso
            have e : l = [] := List.eq_nil_of_length_eq_zero (by have := unhide HSZ; omega)
            have := unhide HN
            rw [e] at this; cases this
        go_wp2
        go_meet
        case rel => exact ⟨⟨_, rfl, by simp; omega, hide (by rw [neg_yes l (unhide HN), cut_list s 1 s.size, unhide HL, List.take_of_length_le (by have := unhide HSZ; omega)])⟩, rfl⟩
    case rest =>
      obtain ⟨⟨s1, rfl, hs1, HT⟩, rfl⟩ := hcut
      clear HL HSZ hs
      have CA := hide (cut_facts l)
      obtain ⟨t, ht⟩ : ∃ t, Lib.trimPrefix l [45] = t := ⟨_, rfl⟩
      obtain ⟨W, hW⟩ : ∃ W, wholeOf l = W := ⟨_, rfl⟩
      obtain ⟨P, hP⟩ : ∃ P, partOf l = P := ⟨_, rfl⟩
      obtain ⟨dot, hdot⟩ : ∃ dot, dotOf l = dot := ⟨_, rfl⟩
      rw [ht] at HT
      rw [ht, hW, hP, hdot] at CA
      have hlen : W.length ≤ s1.size ∧ t.length = s1.size := by
        have h1 : t.length = s1.size := by rw [← unhide HT]; rfl
        refine ⟨?_, h1⟩
        cases hd : dot
        · have := ((unhide CA).no hd).1; rw [← this]; omega
        · have := congrArg List.length ((unhide CA).yes hd); simp at this; omega
      obtain ⟨hwl, htl⟩ := hlen
      have HP := hide (And.intro hW (And.intro hP hdot))
      have HTL := hide htl
      clear ht hW hP hdot htl
      obtain ⟨n, hn⟩ : ∃ n, W.length = n := ⟨_, rfl⟩
      rw [hn] at hwl
      have HN := hide hn
      clear hn
      go_upto_block 0 with fail
      go_cut [5] from 28 (fun v wx => v = .int .i64 (n : Int) ∧ wx = wc)
      case first =>
        go_wp2
        go_loop [5] (fun i => ∃ k : Nat, k ≤ n ∧ i = .int .i64 k) (fun i => n - (intOf i).toNat)
        case atStart => exact ⟨0, Nat.zero_le _, rfl⟩
        case round =>
          obtain ⟨k, hk, rfl⟩ := hrel
          by_cases hlt : k < n
          · have h1 : k < s1.size := by omega
            have h2 : s1[k].toNat ≠ 46 := at_whole s1 t W P dot (unhide HT) (unhide CA) k (by rw [unhide HN]; exact hlt) h1
            have h3 : ((s1[k].toNat : Int) == 46) = false := by rw [beq_eq_false_iff_ne]; omega
            clear h2
            go_wp2
            go_round
            case rel => exact ⟨k + 1, by omega, by go_num⟩
            case measure => simp [intOf]; omega
          · have hk' : k = n := by omega
            subst hk'
            clear hlt hk
            by_cases h1 : k < s1.size
            · have h2 : s1[k].toNat = 46 := at_dot s1 t W P dot (unhide HT) (unhide CA) k (unhide HN) h1
              go_wp2
              go_meet
              case rel => exact ⟨rfl, rfl⟩
            · go_wp2
              go_meet
              case rel => exact ⟨rfl, rfl⟩
      case rest =>
        obtain ⟨rfl, rfl⟩ := hcut
        go_wp2_with fail
        have hW0 : Hid ((s1.extract 0 n).data.toList = W) := hide (slice_whole s1 t W P dot (unhide HT) (unhide CA) n (unhide HN))
        refine (all_ref (s1.extract 0 n) _ (by unfold maxLen; simp; omega)).mono ?_
        rintro e wz ⟨rfl, rfl⟩
        rw [unhide hW0]
        obtain ⟨sW, hsW⟩ : ∃ sW, s1.extract 0 n = sW := ⟨_, rfl⟩
        rw [hsW] at hW0 ⊢
        clear hsW
        cases hw : digB W
        · have hs : Hid (parseR l = (0, 4)) := hide (by
            unfold parseR formB
            rw [(unhide HP).1, hw]; rfl)
          clear hw
          go_wp2
          go_ret2
          exact ⟨by rw [unhide hs]; rfl, Below.refl _ _⟩
        · cases hf : formB l
          · have hs : Hid (parseR l = (0, 4)) := hide (by unfold parseR; rw [hf]; rfl)
            have hdp : dot = true ∧ digB P = false := by
              unfold formB at hf
              rw [(unhide HP).1, hw, (unhide HP).2.1, (unhide HP).2.2] at hf
              cases hd : dot
              · rw [hd] at hf; cases hf
              · rw [hd] at hf; exact ⟨rfl, hf⟩
            obtain ⟨rfl, hp⟩ := hdp
            have hks : n < s1.size := dot_lt s1 t W P (unhide HT) (unhide CA) n (unhide HN)
            have HP0 := hide hp
            clear hf hw hp
            go_wp2_with fail
            have hP0 : Hid ((s1.extract (n + 1) s1.size).data.toList = P) := hide (slice_part s1 t W P (unhide HT) (unhide CA) n (unhide HN))
            refine (all_ref _ _ (by unfold maxLen; simp; omega)).mono ?_
            rintro e wz2 ⟨rfl, rfl⟩
            rw [unhide hP0, unhide HP0]
            go_wp2
            go_ret2
            exact ⟨by rw [unhide hs]; rfl, Below.refl _ _⟩
          · obtain ⟨f1, f2, f3, f4⟩ := part_facts l hf
            rw [(unhide HP).2.1] at f1 f2
            rw [(unhide HP).1] at f3 f4
            have hpd : dot = true → digB P = true := by
              unfold formB at hf
              rw [(unhide HP).1, hw, (unhide HP).2.1, (unhide HP).2.2] at hf
              intro hd
              rw [hd] at hf; exact hf
            have HPD := hide hpd
            have HF := hide hf
            have HFA := hide (And.intro f2 f4)
            clear hf hw hpd f2 f4
            go_upto_if 50 with fail
            go_cut [7, 8] from 50 (fun v7 v8 wx => v7 = .bool true ∧ (∃ sP : ByteArray, v8 = .string sP ∧ Hid (sP.data.toList = P)) ∧ wx = wz)
            case first =>
              cases dot
              · have hks : ¬ n < s1.size := nodot_ge s1 t W P (unhide HT) (unhide CA) n (unhide HN)
                go_wp2
                go_meet
                case rel => exact ⟨rfl, ⟨_, rfl, hide (by have := ((unhide CA).no rfl).2; rw [this])⟩, rfl⟩
              · have hks : n < s1.size := dot_lt s1 t W P (unhide HT) (unhide CA) n (unhide HN)
                have hp : Hid (digB P = true) := hide (unhide HPD rfl)
                go_wp2_with fail
                have hP0 : Hid ((s1.extract (n + 1) s1.size).data.toList = P) := hide (slice_part s1 t W P (unhide HT) (unhide CA) n (unhide HN))
                refine (all_ref _ _ (by unfold maxLen; simp; omega)).mono ?_
                rintro e wz2 ⟨rfl, rfl⟩
                rw [unhide hP0, unhide hp]
                go_wp2
                go_meet
                case rel => exact ⟨rfl, ⟨_, rfl, hP0⟩, rfl⟩
            case rest =>
              obtain ⟨rfl, ⟨sP, rfl, HPP⟩, rfl⟩ := hcut
              have hpl : sP.size = P.length := by rw [← unhide HPP]; rfl
              have hwl2 : sW.size = W.length := by rw [← unhide hW0]; rfl
              have hp18 : sP.size ≤ 18 := by omega
              have hw18 : sW.size ≤ 18 := by omega
              have HPL := hide hpl
              have HWL := hide hwl2
              clear hpl hwl2 f1 f3 HPD HT hs1 HTL hwl HN
              go_wp2
              go_loopw [9, 10] (fun v t wr => ∃ k : Nat, t = .int .i64 ((k : Int) - 1) ∧ k ≤ sP.size ∧ Hid (wr.ownsRow wc.heap.size 3 1 v (revD P k).length ((revD P k).map (Value.int .i64))) ∧ Hid (Below wc.heap.size wc wr)) (fun _ t _ => (intOf t + 1).toNat)
              case atStart => exact ⟨sP.size, rfl, Nat.le_refl _, hide (by rw [unhide HPL, revD_full]; exact World.ownsRow_nil _ _ _ _), hide (Below.refl _ _)⟩
              case round =>
                obtain ⟨k, rfl, hk, HO, HB⟩ := hrel
                rcases k with _ | m
                · rw [show (((0 : Nat) : Int) - 1) = -1 from rfl]
                  obtain ⟨wp, rfl⟩ : ∃ wp, wp = wr := ⟨_, rfl⟩
                  go_wp2
                  go_loopw [9, 11] (fun v t wr => ∃ k : Nat, t = .int .i64 ((k : Int) - 1) ∧ k ≤ sW.size ∧ Hid (wr.ownsRow wc.heap.size 3 1 v (bothD P W k).length ((bothD P W k).map (Value.int .i64))) ∧ Hid (Below wc.heap.size wc wr)) (fun _ t _ => (intOf t + 1).toNat)
                  case atStart => exact ⟨sW.size, rfl, Nat.le_refl _, hide (by rw [unhide HWL]; unfold bothD; rw [revD_full, List.append_nil]; exact unhide HO), HB⟩
                  case round =>
                    clear HO HB
                    obtain ⟨k, rfl, hk, HO, HB⟩ := hrel
                    rcases k with _ | m
                    · rw [show (((0 : Nat) : Int) - 1) = -1 from rfl]
                      obtain ⟨vd, rfl⟩ : ∃ vd, vd = u9 := ⟨_, rfl⟩
                      obtain ⟨wd, rfl⟩ : ∃ wd, wd = wr := ⟨_, rfl⟩
                      have HA := hide (arr_of_owns rfl (unhide HO))
                      have HDD := hide (both_facts P W (unhide HFA).1 (unhide HFA).2 (by have := unhide HPL; omega) (by have := unhide HWL; omega))
                      clear HO
                      go_wp2
                      go_loopw [12, 13] (fun v t wr => ∃ j : Nat, t = .int .i64 (j : Int) ∧ j ≤ sP.size ∧ Hid (PowAt wr v j) ∧ Hid (Below wd.heap.size wd wr)) (fun _ t _ => sP.size - (intOf t).toNat)
                      case atStart => exact ⟨0, rfl, Nat.zero_le _, hide (pow_one _ _), hide ((Below.refl _ _).alloc (Nat.le_refl _) _)⟩
                      case round =>
                        obtain ⟨j, rfl, hj, HPW, HBD⟩ := hrel
                        obtain ⟨wo, rfl⟩ : ∃ wo, wo = wr := ⟨_, rfl⟩
                        by_cases hlt : j < sP.size
                        · go_wp2_with fail
                          refine (times_ten _ j wo _ (by omega) (unhide HPW)).mono ?_
                          rintro e w2 ⟨b2, v2, rfl, p2⟩
                          have HP2 := hide p2
                          have HB2 := hide (below_next (unhide HBD) b2)
                          clear p2 b2
                          go_wp2
                          go_roundw
                          case rel => exact ⟨j + 1, int_eqv (by omega), by omega, HP2, HB2⟩
                          case measure => simp [intOf]; omega
                        · have hje : j = P.length := by have := unhide HPL; omega
                          obtain ⟨us, p1, p2, p3, p4, p5⟩ := unhide HPW
                          have US : Hid (Arr wo u12 us ∧ Dc.Dig us ∧ Dc.Cn us ∧ Dc.val us = ((10 ^ P.length : Nat) : Int) ∧ us.length ≤ 60) := hide ⟨p1, p2, p3, by rw [p4, hje]; simp, by omega⟩
                          have HAo := hide ((unhide HA).below (Nat.le_refl _) (unhide HBD))
                          have HBo := hide ((unhide HB).trans ((unhide HBD).mono (unhide HB).size))
                          clear p1 p2 p3 p4 p5 hje HPW HBD HA HB
                          go_wp2_with fail
                          refine (trim_any _ (bothD P W 0) _ (by have := (unhide HDD).2.2; omega) (unhide HAo)).mono ?_
                          intro e w3 hp
                          obtain ⟨rfl, v', ds, rfl, q1, q2, q3, q4, q5, _⟩ := trim_num (unhide HDD).1 hp
                          have DS : Hid (Arr w3 v' ds ∧ Dc.Dig ds ∧ Dc.Cn ds ∧ Dc.val ds = ((numL W * 10 ^ P.length + numL P : Nat) : Int) ∧ ds.length ≤ 36) := hide ⟨q1, q2, q3, by rw [q4]; exact (unhide HDD).2.1, by have := (unhide HDD).2.2; omega⟩
                          clear hp q1 q2 q3 q4 q5
                          go_wp2_with fail
                          refine (digits_ref 10000 _ (by omega) (by omega)).mono ?_
                          rintro e w4 ⟨b4, vs, ss, rfl, x1, x2, x3, x4, x5, _⟩
                          have X := hide (And.intro x1 (And.intro x2 (And.intro x3 (And.intro x4 x5))))
                          clear x1 x2 x3 x4 x5
                          go_wp2_with fail
                          refine (times_ref v' vs ds ss _ (by have := (unhide DS).2.2.2.2; omega) (by have := (unhide X).2.2.2.2; omega) ((unhide DS).1.below (Nat.le_refl _) b4) (unhide X).1 (unhide DS).2.1 (unhide X).2.1).mono ?_
                          rintro e w5 ⟨b5, vm, ms, rfl, m1, m2, m3, m4, m5, _⟩
                          have M : Hid (Arr w5 vm ms ∧ Dc.Dig ms ∧ Dc.Cn ms ∧ Dc.val ms = ((numL W * 10 ^ P.length + numL P : Nat) : Int) * 10000 ∧ ms.length ≤ 100) := hide ⟨m1, m2, m3, by rw [m4, (unhide DS).2.2.2.1, (unhide X).2.2.2.1]; rfl, by have := (unhide DS).2.2.2.2; have := (unhide X).2.2.2.2; omega⟩
                          have b45 := below_next b4 b5
                          clear m1 m2 m3 m4 m5
                          go_wp2_with fail
                          refine (nearest_ref vm _ ms us _ (by have := (unhide M).2.2.2.2; omega) (by have := (unhide US).2.2.2.2; omega) (unhide M).1 ((unhide US).1.below (Nat.le_refl _) b45) (unhide M).2.1 (unhide US).2.1 (unhide US).2.2.1 (by rw [(unhide US).2.2.2.1]; exact Int.natCast_pos.2 (Nat.pow_pos (by omega)))).mono ?_
                          rintro e w6 ⟨b6, vn, ns, rfl, n1, n2, n3, n4, n5, _⟩
                          have N : Hid (Arr w6 vn ns ∧ Dc.Dig ns ∧ Dc.Cn ns ∧ ns.length ≤ 900) := hide ⟨n1, n2, n3, by have := (unhide M).2.2.2.2; omega⟩
                          have V : Hid (Dc.val ns = nrI (((numL W * 10 ^ P.length + numL P : Nat) : Int) * 10000) ((10 ^ P.length : Nat) : Int)) := hide (by rw [n4, (unhide M).2.2.2.1, (unhide US).2.2.2.1])
                          have b46 := below_next b45 b6
                          clear n1 n2 n3 n4 n5
                          go_wp2_with fail
                          refine (number_ref vn ns neg _ (unhide N).2.2.2 (unhide N).1 (unhide N).2.1 (unhide N).2.2.1).mono ?_
                          rintro e w7 ⟨rfl, b7⟩
                          have hfin : (sgnN neg (Dc.val ns), sgnE (Dc.val ns)) = parseR l := by
                            rw [← unhide HNEG]
                            refine parse_eq l (unhide HF) _ ?_
                            rw [(unhide HP).1, (unhide HP).2.1]
                            exact unhide V
                          rw [hfin]
                          have b47 := hide ((unhide HBo).trans ((below_next b46 b7).mono (unhide HBo).size))
                          go_wp2
                          go_ret2
                          exact ⟨rfl, unhide b47⟩
                    · have e1 : ((m + 1 : Nat) : Int) - 1 = (m : Int) := by omega
                      rw [e1]
                      clear e1
                      have hm : m < sW.size := by omega
                      have hd : 48 ≤ sW[m].toNat ∧ sW[m].toNat ≤ 57 := at_dig sW W (unhide hW0) (unhide HFA).2 m hm
                      obtain ⟨d1, d2⟩ := hd
                      have hrl : (bothD P W (m + 1)).length ≤ 36 := by unfold bothD; rw [List.length_append, revD_len, revD_len]; have := unhide HPL; have := unhide HWL; omega
                      go_wp2_with (first
                        | (at_builtin; refine wpList_append_own _ rfl _ _ 49 rfl wc.heap.size 3 i0 (.int .i64 0) 1 8 Tryz.underlying49 hi hz0 hz1 hz2 rfl (by decide) _ _ _ rfl ((unhide HO).alloc _) ⟨wr.heap.size, 0, none⟩ 1 1 [.int .i64 ((sW[m].toNat : Int) - 48)] rfl rfl (one_cell _ _ _) (one_one _) (by unfold maxLen; omega) (by omega) (by have := (unhide HB).size; simp; omega) ?_)
                        | go_in)
                      · intro v' w1 hown' hgrow _
                        have hB := (unhide HB).size
                        have R := own_step (unhide HB) hB (unhide HO) hown' hgrow
                        have est := revD_at W m (by have := unhide HWL; omega)
                        have R : Hid (w1.ownsRow wc.heap.size 3 1 v' (bothD P W m).length ((bothD P W m).map (Value.int .i64)) ∧ Below wc.heap.size wc w1) := hide (by
                          have e2 : bothD P W m = bothD P W (m + 1) ++ [(sW[m].toNat : Int) - 48] := by
                            unfold bothD
                            rw [est, dgt_at sW W (unhide hW0) m hm, ← List.append_assoc]
                          rw [e2]
                          exact R)
                        clear hown' hgrow est
                        go_wp2
                        go_roundw
                        case rel => exact ⟨m, int_eqv (by omega), by omega, hide (unhide R).1, hide (unhide R).2⟩
                        case measure => simp [intOf]
                · have e1 : ((m + 1 : Nat) : Int) - 1 = (m : Int) := by omega
                  rw [e1]
                  clear e1
                  have hm : m < sP.size := by omega
                  have hd : 48 ≤ sP[m].toNat ∧ sP[m].toNat ≤ 57 := at_dig sP P (unhide HPP) (unhide HFA).1 m hm
                  obtain ⟨d1, d2⟩ := hd
                  have hrl : (revD P (m + 1)).length ≤ 18 := by rw [revD_len]; have := unhide HPL; omega
                  go_wp2_with (first
                    | (at_builtin; refine wpList_append_own _ rfl _ _ 49 rfl wc.heap.size 3 i0 (.int .i64 0) 1 8 Tryz.underlying49 hi hz0 hz1 hz2 rfl (by decide) _ _ _ rfl ((unhide HO).alloc _) ⟨wr.heap.size, 0, none⟩ 1 1 [.int .i64 ((sP[m].toNat : Int) - 48)] rfl rfl (one_cell _ _ _) (one_one _) (by unfold maxLen; omega) (by omega) (by have := (unhide HB).size; simp; omega) ?_)
                    | go_in)
                  · intro v' w1 hown' hgrow _
                    have hB := (unhide HB).size
                    have R := own_step (unhide HB) hB (unhide HO) hown' hgrow
                    have est := revD_at P m (by have := unhide HPL; omega)
                    have R : Hid (w1.ownsRow wc.heap.size 3 1 v' (revD P m).length ((revD P m).map (Value.int .i64)) ∧ Below wc.heap.size wc w1) := hide (by
                      rw [est, dgt_at sP P (unhide HPP) m hm]
                      exact R)
                    clear hown' hgrow est
                    go_wp2
                    go_roundw
                    case rel => exact ⟨m, int_eqv (by omega), by omega, hide (unhide R).1, hide (unhide R).2⟩
                    case measure => simp [intOf]
end Go.Proofs.YtbeijnflfmjgfaaGreatDoor
