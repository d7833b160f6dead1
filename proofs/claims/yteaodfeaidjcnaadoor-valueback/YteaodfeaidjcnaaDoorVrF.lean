/- The contracts of the reference's Bare and numbers, of layer 3. -/
import Derived.Test.YteaodfeaidjcnaaDoorVrE
import Derived.Lib.IndexBytes
namespace Go.Proofs.YteaodfeaidjcnaaDoor
open Go.RowKit

def cmpV (a b : Int) : Int := if a < b then -1 else if b < a then 1 else 0
set_option maxHeartbeats 1000000 in
theorem numbers_ref (a b : Int) (w : World) :
    Calls Tryd.prog 42 #[.int .i64 a, .int .i64 b] w fun e w' => e = .returned (.int .i64 (cmpV a b)) ∧ w' = w := by
  unfold cmpV
  rcases Int.lt_trichotomy a b with h | h | h
  · rw [if_pos h]
    go_enter Tryd.func42, Tryd.ntmps42
    go_wp2
    go_ret
    exact ⟨rfl, rfl⟩
  · subst h
    rw [if_neg (by omega), if_neg (by omega)]
    go_enter Tryd.func42, Tryd.ntmps42
    go_wp2
    go_ret
    exact ⟨rfl, rfl⟩
  · rw [if_neg (by omega), if_pos h]
    have h' : ¬ a < b := by omega
    go_enter Tryd.func42, Tryd.ntmps42
    go_wp2
    go_ret
    exact ⟨rfl, rfl⟩

/-- Without blanks ahead. -/
def dl (l : List UInt8) : List UInt8 := l.dropWhile (fun c => c.toNat == 32)
theorem dl_cons_yes {c : UInt8} {l : List UInt8} (h : (c.toNat == 32) = true) : dl (c :: l) = dl l := by unfold dl; rw [List.dropWhile_cons, if_pos h]
theorem dl_cons_no {c : UInt8} {l : List UInt8} (h : (c.toNat == 32) = false) : dl (c :: l) = c :: l := by unfold dl; rw [List.dropWhile_cons, h]; rfl
def bareV (s : ByteArray) : ByteArray := ⟨(dl (dl s.data.toList).reverse).reverse.toArray⟩
theorem cons_of (t : ByteArray) (h : 0 < t.size) : t.data.toList = t[0] :: (t.extract 1 t.size).data.toList := by
  rw [Lib.extract_to_end]
  have h' : 0 < t.data.toList.length := h
  rw [List.drop_one]
  match hl : t.data.toList, h' with
  | a :: l, _ =>
    have e : t[0] = a := by
      have : t.data.toList[0]'h' = a := by simp [hl]
      rw [← this]; rfl
    rw [e]; rfl
theorem snoc_of (t : ByteArray) (n : Nat) (h : t.size = n + 1) : t.data.toList.reverse = t[n] :: (t.extract 0 n).data.toList.reverse := by
  have hl : t.data.toList.length = n + 1 := h
  have e1 : (t.extract 0 n).data.toList = t.data.toList.take n := by
    rw [ByteArray.data_extract, Array.toList_extract]; simp [List.extract]
  have e2 : t.data.toList = t.data.toList.take n ++ [t[n]] := by
    have := List.take_succ_eq_append_getElem (l := t.data.toList) (i := n) (by omega)
    rw [List.take_of_length_le (by omega)] at this
    exact this
  rw [e1]
  conv => lhs; rw [e2]
  rw [List.reverse_append]; rfl

end Go.Proofs.YteaodfeaidjcnaaDoor
