/- A value is read back from its bytes, and from what is shown. -/
import Derived.Test.YteaodfeaidjcnaaGreatDoorVpX
import Derived.Test.YteaodfeaidjcnaaGreatDoorVpM
import Derived.Test.YteaodfeaidjcnaaGreatDoorVpW
namespace Go.Proofs.YteaodfeaidjcnaaGreatDoor
open Go.RowKit

theorem bytes_ext {s t : ByteArray} (h : s.data.toList = t.data.toList) : s = t := by
  obtain ⟨⟨s⟩⟩ := s
  obtain ⟨⟨t⟩⟩ := t
  simp only [] at h
  rw [h]
theorem no_text (s : ByteArray) (h : s.toList = []) : s = noText := bytes_ext (by rw [ByteArray.toList_eq] at h; rw [h])
theorem ext_list (s : ByteArray) (a b : Nat) : (s.extract a b).data.toList = (s.data.toList.drop a).take (b - a) := by
  rw [ByteArray.data_extract, Array.toList_extract, List.extract_eq_take_drop]
theorem app_list (s t : ByteArray) : (s ++ t).data.toList = s.data.toList ++ t.data.toList := by
  rw [ByteArray.data_append, Array.toList_append]
/-- A good value has nothing but its own field. -/
theorem good_form (X : Vl) (h : vGood X = true) :
    X = ⟨0, 0, noText, false, 0⟩ ∨ (∃ n, goodB n = true ∧ X = ⟨1, n, noText, false, 0⟩) ∨ (∃ s : ByteArray, s.size ≤ 255 ∧ X = ⟨2, 0, s, false, 0⟩) ∨ (∃ b, X = ⟨3, 0, noText, b, 0⟩) ∨ (∃ f, 1 ≤ f ∧ f ≤ 8 ∧ X = ⟨4, 0, noText, false, f⟩) := by
  have hk := good_kind X h
  obtain ⟨k, n, s, b, f⟩ := X
  simp only [] at hk
  rcases hk with rfl | rfl | rfl | rfl | rfl
  · rw [vGood0] at h
    simp at h
    obtain ⟨⟨⟨h1, h2⟩, h3⟩, h4⟩ := h
    subst h1 h3 h4
    exact Or.inl (by rw [no_text s h2])
  · rw [vGood1] at h
    simp at h
    obtain ⟨⟨⟨h1, h2⟩, h3⟩, h4⟩ := h
    subst h3 h4
    exact Or.inr (Or.inl ⟨n, h1, by rw [no_text s h2]⟩)
  · rw [vGood2] at h
    simp at h
    obtain ⟨⟨⟨h1, h2⟩, h3⟩, h4⟩ := h
    subst h1 h3 h4
    exact Or.inr (Or.inr (Or.inl ⟨s, h2, rfl⟩))
  · rw [vGood3] at h
    simp at h
    obtain ⟨⟨h1, h2⟩, h3⟩ := h
    subst h1 h3
    exact Or.inr (Or.inr (Or.inr (Or.inl ⟨b, by rw [no_text s h2]⟩)))
  · rw [vGood4] at h
    simp at h
    obtain ⟨⟨⟨⟨h1, h2⟩, h3⟩, h4⟩, h5⟩ := h
    subst h1 h3
    exact Or.inr (Or.inr (Or.inr (Or.inr ⟨f, h4, h5, by rw [no_text s h2]⟩)))

theorem read_blank : readV (showV ⟨0, 0, noText, false, 0⟩) = ⟨0, 0, noText, false, 0⟩ := by kernel_rfl
theorem read_t : readV (showV ⟨3, 0, noText, true, 0⟩) = ⟨3, 0, noText, true, 0⟩ := by kernel_rfl
theorem read_f : readV (showV ⟨3, 0, noText, false, 0⟩) = ⟨3, 0, noText, false, 0⟩ := by kernel_rfl
theorem read_e1 : readV (showV ⟨4, 0, noText, false, 1⟩) = ⟨4, 0, noText, false, 1⟩ := by kernel_rfl
theorem read_e2 : readV (showV ⟨4, 0, noText, false, 2⟩) = ⟨4, 0, noText, false, 2⟩ := by kernel_rfl
theorem read_e3 : readV (showV ⟨4, 0, noText, false, 3⟩) = ⟨4, 0, noText, false, 3⟩ := by kernel_rfl
theorem read_e4 : readV (showV ⟨4, 0, noText, false, 4⟩) = ⟨4, 0, noText, false, 4⟩ := by kernel_rfl
theorem read_e5 : readV (showV ⟨4, 0, noText, false, 5⟩) = ⟨4, 0, noText, false, 5⟩ := by kernel_rfl
theorem read_e6 : readV (showV ⟨4, 0, noText, false, 6⟩) = ⟨4, 0, noText, false, 6⟩ := by kernel_rfl
theorem read_e7 : readV (showV ⟨4, 0, noText, false, 7⟩) = ⟨4, 0, noText, false, 7⟩ := by kernel_rfl
theorem read_e8 : readV (showV ⟨4, 0, noText, false, 8⟩) = ⟨4, 0, noText, false, 8⟩ := by kernel_rfl
theorem parse_nil : (parseR []).2 ≠ 0 := by decide +kernel
theorem read_num (n : Int) (h : goodB n = true) : readV ⟨(textL n).toArray⟩ = ⟨1, n, noText, false, 0⟩ := by
  have hp := parse_text n h
  have hne : textL n ≠ [] := fun e => by
    rw [e] at hp
    exact parse_nil (by rw [hp])
  have e0 : ((⟨(textL n).toArray⟩ : ByteArray).toList == []) = false := by
    rw [ByteArray.toList_eq, beq_eq_false_iff_ne]
    exact hne
  unfold readV
  rw [e0, if_neg (by decide), show (⟨(textL n).toArray⟩ : ByteArray).data.toList = textL n from rfl, hp, if_pos (by rfl)]
  show vN n = _
  unfold vN
  rw [if_pos h]
theorem read_show (X : Vl) (hg : vGood X = true) (hk : X.kind ≠ 2) : readV (showV X) = X := by
  rcases good_form X hg with rfl | ⟨n, hn, rfl⟩ | ⟨s, hs, rfl⟩ | ⟨b, rfl⟩ | ⟨f, h1, h8, rfl⟩
  · exact read_blank
  · exact read_num n hn
  · exact absurd rfl hk
  · cases b
    · exact read_f
    · exact read_t
  · have hf : f = 1 ∨ f = 2 ∨ f = 3 ∨ f = 4 ∨ f = 5 ∨ f = 6 ∨ f = 7 ∨ f = 8 := by omega
    rcases hf with rfl | rfl | rfl | rfl | rfl | rfl | rfl | rfl
    · exact read_e1
    · exact read_e2
    · exact read_e3
    · exact read_e4
    · exact read_e5
    · exact read_e6
    · exact read_e7
    · exact read_e8

theorem first_cons (c : UInt8) (l : List UInt8) : firstV ⟨(c :: l).toArray⟩ = firstR (c.toNat : Int) ⟨l.toArray⟩ := by
  have hz : (⟨(c :: l).toArray⟩ : ByteArray).size = l.length + 1 := rfl
  unfold firstV
  rw [if_neg (by rw [hz]; omega), hz]
  have e : (⟨(c :: l).toArray⟩ : ByteArray).extract 1 (l.length + 1) = ⟨l.toArray⟩ := bytes_ext (by
    rw [ext_list]
    show (l.take (l.length + 1 - 1)) = l
    rw [Nat.add_sub_cancel, List.take_length])
  rw [e]
  rfl
theorem div_step (m d : Nat) : 256 * (m / (d * 256)) + m / d % 256 = m / d := by
  rw [← Nat.div_div_eq_div_mul]; omega
set_option maxRecDepth 100000 in
theorem valB_be8 (m : Nat) (h : m < 18446744073709551616) : valB ⟨(be8 m).toArray⟩ 8 = m := by
  have s7 : m / 72057594037927936 % 256 = m / 72057594037927936 := Nat.mod_eq_of_lt (by omega)
  have s6 : 256 * (m / 72057594037927936) + m / 281474976710656 % 256 = m / 281474976710656 := div_step m 281474976710656
  have s5 : 256 * (m / 281474976710656) + m / 1099511627776 % 256 = m / 1099511627776 := div_step m 1099511627776
  have s4 : 256 * (m / 1099511627776) + m / 4294967296 % 256 = m / 4294967296 := div_step m 4294967296
  have s3 : 256 * (m / 4294967296) + m / 16777216 % 256 = m / 16777216 := div_step m 16777216
  have s2 : 256 * (m / 16777216) + m / 65536 % 256 = m / 65536 := div_step m 65536
  have s1 : 256 * (m / 65536) + m / 256 % 256 = m / 256 := div_step m 256
  have s0 : 256 * (m / 256) + m % 256 = m := by omega
  have hmm : ∀ x : Nat, x % 256 % 2 ^ 8 = x % 256 := fun x => Nat.mod_mod x 256
  simp only [valB, byteAt, be8, List.getD_cons_zero, List.getD_cons_succ, UInt8.toNat_ofNat', hmm]
  rw [s7, Nat.mul_zero, Nat.zero_add, s6, s5, s4, s3, s2, s1, s0]
theorem num_back (n : Int) (h : goodB n = true) : wrap64 ((u64N n : Nat) : Int) = n := by
  have hb : -9223372036854775808 ≤ n ∧ n ≤ 9223372036854775807 := by unfold goodB at h; simp at h; omega
  rw [← (u64N_eq n).1, IntKind.wrap_u64]
  unfold wrap64
  omega
theorem first_put (X : Vl) (hg : vGood X = true) (b : List UInt8) : firstV ⟨(putL X ++ b).toArray⟩ = (X, ((putL X).length : Int)) := by
  rcases good_form X hg with rfl | ⟨n, hn, rfl⟩ | ⟨s, hs, rfl⟩ | ⟨t, rfl⟩ | ⟨f, h1, h8, rfl⟩
  · show firstV ⟨((0 : UInt8) :: b).toArray⟩ = _
    rw [first_cons]; rfl
  · show firstV ⟨((1 : UInt8) :: (be8 (u64N n) ++ b)).toArray⟩ = _
    rw [first_cons]
    have hz : (⟨(be8 (u64N n) ++ b).toArray⟩ : ByteArray).size = 8 + b.length := by show (be8 (u64N n) ++ b).length = _; rw [List.length_append]; rfl
    have e : (⟨(be8 (u64N n) ++ b).toArray⟩ : ByteArray).extract 0 8 = ⟨(be8 (u64N n)).toArray⟩ := bytes_ext (by
      rw [ext_list]
      show (be8 (u64N n) ++ b).take 8 = be8 (u64N n)
      exact List.take_left' rfl)
    show firstR 1 _ = _
    unfold firstR
    rw [if_neg (by decide), if_neg (by rw [hz]; omega), if_pos rfl, if_pos (by rw [hz]; omega), e, valB_be8 _ (u64N_eq n).2, num_back n hn]
    rfl
  · show firstV ⟨((2 : UInt8) :: (UInt8.ofNat s.size :: (s.data.toList ++ b))).toArray⟩ = _
    rw [first_cons]
    have hz : (⟨(UInt8.ofNat s.size :: (s.data.toList ++ b)).toArray⟩ : ByteArray).size = 1 + s.size + b.length := by
      show (s.data.toList ++ b).length + 1 = _
      rw [List.length_append]
      show s.size + b.length + 1 = _
      omega
    have hb : (byteAt ⟨(UInt8.ofNat s.size :: (s.data.toList ++ b)).toArray⟩ 0).toNat = s.size := by
      show (UInt8.ofNat s.size).toNat = s.size
      rw [UInt8.toNat_ofNat']
      omega
    have e : (⟨(UInt8.ofNat s.size :: (s.data.toList ++ b)).toArray⟩ : ByteArray).extract 1 (1 + s.size) = s := bytes_ext (by
      rw [ext_list]
      show (s.data.toList ++ b).take (1 + s.size - 1) = s.data.toList
      rw [Nat.add_sub_cancel_left]
      exact List.take_left' rfl)
    show firstR 2 _ = _
    unfold firstR
    rw [if_neg (by decide), if_neg (by rw [hz]; omega), if_neg (by decide), if_pos rfl, hb, if_pos (by rw [hz]; omega), e]
    show _ = (_, ((s.data.toList.length + 1 + 1 : Nat) : Int))
    rw [show s.data.toList.length = s.size from rfl]
    exact congrArg (Prod.mk _) (by omega)
  · cases t
    · show firstV ⟨((3 : UInt8) :: ((0 : UInt8) :: b)).toArray⟩ = _
      rw [first_cons]; rfl
    · show firstV ⟨((3 : UInt8) :: ((1 : UInt8) :: b)).toArray⟩ = _
      rw [first_cons]; rfl
  · have hf : f = 1 ∨ f = 2 ∨ f = 3 ∨ f = 4 ∨ f = 5 ∨ f = 6 ∨ f = 7 ∨ f = 8 := by omega
    rcases hf with rfl | rfl | rfl | rfl | rfl | rfl | rfl | rfl
    all_goals
      rw [show putL ⟨4, 0, noText, false, _⟩ ++ b = (4 : UInt8) :: (_ :: b) from rfl, first_cons]
      rfl
/-- A good value is told back from its bytes, wherever they stand. -/
theorem get_put (X : Vl) (hg : vGood X = true) (A B : ByteArray) :
    getP (A ++ ⟨(putL X).toArray⟩ ++ B) (A.size : Int) = (X, (A.size : Int) + ((putL X).length : Int), 0) := by
  have hz : (A ++ ⟨(putL X).toArray⟩ ++ B).size = A.size + (putL X).length + B.size := by
    show (A ++ ⟨(putL X).toArray⟩ ++ B).data.toList.length = _
    rw [app_list, app_list, List.length_append, List.length_append]
    rfl
  have e : (A ++ ⟨(putL X).toArray⟩ ++ B).extract A.size (A ++ ⟨(putL X).toArray⟩ ++ B).size = ⟨(putL X ++ B.data.toList).toArray⟩ := bytes_ext (by
    rw [ext_list, app_list, app_list, hz]
    show List.take _ (List.drop A.data.toList.length (A.data.toList ++ putL X ++ B.data.toList)) = putL X ++ B.data.toList
    rw [List.append_assoc, List.drop_left]
    exact List.take_of_length_le (by rw [List.length_append]; show (putL X).length + B.size ≤ _; omega))
  unfold getP
  rw [if_neg (by rw [hz]; omega), show ((A.size : Int)).toNat = A.size from rfl, e]
  unfold getF
  rw [first_put X hg]
  have hl : ((putL X).length : Int) ≠ 0 := by show ((List.length _ + 1 : Nat) : Int) ≠ 0; omega
  simp only []
  rw [if_neg hl, if_pos hg]
end Go.Proofs.YteaodfeaidjcnaaGreatDoor
