/- The contract of the reference's Parse. -/
import Derived.Test.YteaodfeaidjcnaaDoorRfX
import Derived.Test.YteaodfeaidjcnaaDoorRfY
import Derived.BigRegion
import Derived.Deep.CutRange
import Derived.Deep.CutBlock
namespace Go.Proofs.YteaodfeaidjcnaaDoor
open Go.RowKit

theorem at_eq (s : ByteArray) (l : List UInt8) (h : s.data.toList = l) (k : Nat) (hk : k < s.size) (hk' : k < l.length) : l[k] = s[k] := by
  subst h; rfl
theorem cut_list (s : ByteArray) (i j : Nat) : (s.extract i j).data.toList = (s.data.toList.take j).drop i := by
  rw [ByteArray.data_extract, Array.toList_extract, List.extract_eq_drop_take']
theorem at_whole (s : ByteArray) (t W P : List UInt8) (dot : Bool) (ht : s.data.toList = t) (h : CutAt t W P dot) (k : Nat) (hk : k < W.length) (h1 : k < s.size) : s[k].toNat ≠ 46 := by
  have hkt : k < t.length := by rw [← ht]; exact h1
  have e : t[k] = W[k] := by
    cases hd : dot
    · have := (h.no hd).1; subst this; rfl
    · have := h.yes hd; subst this; exact List.getElem_append_left hk
  rw [← at_eq s t ht k h1 hkt, e]
  intro h2
  exact h.noW _ (List.getElem_mem hk) (UInt8.toNat_inj.1 h2)
theorem at_dot (s : ByteArray) (t W P : List UInt8) (dot : Bool) (ht : s.data.toList = t) (h : CutAt t W P dot) (k : Nat) (hk : W.length = k) (h1 : k < s.size) : s[k].toNat = 46 := by
  have hkt : k < t.length := by rw [← ht]; exact h1
  rw [← at_eq s t ht k h1 hkt]
  cases hd : dot
  · have := (h.no hd).1; subst this; omega
  · have := h.yes hd
    subst this
    rw [List.getElem_append_right (by omega)]
    simp [hk]

theorem slice_whole (s : ByteArray) (t W P : List UInt8) (dot : Bool) (ht : s.data.toList = t) (h : CutAt t W P dot) (k : Nat) (hk : W.length = k) : (s.extract 0 k).data.toList = W := by
  rw [cut_list, ht, List.drop_zero]
  cases hd : dot
  · have := (h.no hd).1; subst this; exact List.take_of_length_le (by omega)
  · have := h.yes hd; subst this; subst hk; exact List.take_left
theorem slice_part (s : ByteArray) (t W P : List UInt8) (ht : s.data.toList = t) (h : CutAt t W P true) (k : Nat) (hk : W.length = k) : (s.extract (k + 1) s.size).data.toList = P := by
  have hs : s.size = t.length := by rw [← ht]; rfl
  rw [cut_list, ht, List.take_of_length_le (by omega)]
  have := h.yes rfl
  subst this; subst hk
  rw [← List.drop_drop, List.drop_left]
  rfl
theorem dot_lt (s : ByteArray) (t W P : List UInt8) (ht : s.data.toList = t) (h : CutAt t W P true) (k : Nat) (hk : W.length = k) : k < s.size := by
  have hs : s.size = t.length := by rw [← ht]; rfl
  have := congrArg List.length (h.yes rfl)
  simp at this
  omega

theorem nodot_ge (s : ByteArray) (t W P : List UInt8) (ht : s.data.toList = t) (h : CutAt t W P false) (k : Nat) (hk : W.length = k) : ¬ k < s.size := by
  have hs : s.size = t.length := by rw [← ht]; rfl
  have := congrArg List.length (h.no rfl).1
  omega
theorem at_dig (s : ByteArray) (P : List UInt8) (h : s.data.toList = P) (hd : P.all isDig = true) (m : Nat) (hm : m < s.size) : 48 ≤ s[m].toNat ∧ s[m].toNat ≤ 57 := by
  have hm' : m < P.length := by rw [← h]; exact hm
  rw [← at_eq s P h m hm hm']
  exact isDig_at P hd m hm'
theorem revD_at (x : List UInt8) (m : Nat) (hm : m < x.length) : revD x m = revD x (m + 1) ++ [dgt x[m]] := revD_step x (m + 1) (by omega) (by omega)
def bothD (P W : List UInt8) (k : Nat) : List Int := revD P 0 ++ revD W k
theorem both_facts (P W : List UInt8) (hP : P.all isDig = true) (hW : W.all isDig = true) (h1 : P.length ≤ 18) (h2 : W.length ≤ 18) :
    Dc.Dig (bothD P W 0) ∧ Dc.val (bothD P W 0) = ((numL W * 10 ^ P.length + numL P : Nat) : Int) ∧ (bothD P W 0).length ≤ 36 := by
  refine ⟨dig_append (revD_dig P hP 0) (revD_dig W hW 0), both_val W P hW hP, ?_⟩
  unfold bothD
  rw [List.length_append, revD_len, revD_len]
  omega
theorem dgt_at (s : ByteArray) (P : List UInt8) (h : s.data.toList = P) (m : Nat) (hm : m < s.size) {hm' : m < P.length} : dgt P[m] = (s[m].toNat : Int) - 48 := by
  rw [at_eq s P h m hm hm']; rfl

end Go.Proofs.YteaodfeaidjcnaaDoor
