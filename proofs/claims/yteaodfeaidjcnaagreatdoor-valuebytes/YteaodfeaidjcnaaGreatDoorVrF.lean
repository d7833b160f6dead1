/- The contracts of the reference's Bare and numbers, of layer 3. -/
import Derived.Test.YteaodfeaidjcnaaGreatDoorVrE
import Derived.Lib.IndexBytes
namespace Go.Proofs.YteaodfeaidjcnaaGreatDoor
open Go.RowKit

def cmpV (a b : Int) : Int := if a < b then -1 else if b < a then 1 else 0
/-- Without blanks ahead. -/
def dl (l : List UInt8) : List UInt8 := l.dropWhile (fun c => c.toNat == 32)
theorem dl_cons_yes {c : UInt8} {l : List UInt8} (h : (c.toNat == 32) = true) : dl (c :: l) = dl l := by unfold dl; rw [List.dropWhile_cons, if_pos h]
theorem dl_cons_no {c : UInt8} {l : List UInt8} (h : (c.toNat == 32) = false) : dl (c :: l) = c :: l := by unfold dl; rw [List.dropWhile_cons, h]; rfl
def bareV (s : ByteArray) : ByteArray := ⟨(dl (dl s.data.toList).reverse).reverse.toArray⟩
theorem cons_of (t : ByteArray) (h : 0 < t.size) : t.data.toList = t[0] :: (t.extract 1 t.size).data.toList := by
  rw [Lib.extract_to_end]
  have h' : 0 < t.data.toList.length := h
  rw [List.drop_one]
  match hl : t.data.toList, h' with
  | a :: l, _ =>
    have e : t[0] = a := by
      have : t.data.toList[0]'h' = a := by simp [hl]
      rw [← this]; rfl
    rw [e]; rfl
theorem snoc_of (t : ByteArray) (n : Nat) (h : t.size = n + 1) : t.data.toList.reverse = t[n] :: (t.extract 0 n).data.toList.reverse := by
  have hl : t.data.toList.length = n + 1 := h
  have e1 : (t.extract 0 n).data.toList = t.data.toList.take n := by
    rw [ByteArray.data_extract, Array.toList_extract]; simp [List.extract]
  have e2 : t.data.toList = t.data.toList.take n ++ [t[n]] := by
    have := List.take_succ_eq_append_getElem (l := t.data.toList) (i := n) (by omega)
    rw [List.take_of_length_le (by omega)] at this
    exact this
  rw [e1]
  conv => lhs; rw [e2]
  rw [List.reverse_append]; rfl

set_option maxRecDepth 100000 in
set_option maxHeartbeats 2000000 in
theorem bare_ref (s : ByteArray) (w : World) (hs : s.size ≤ 1000000) :
    Calls Tryz.prog 26 #[.string s] w fun e w' => e = .returned (.string (bareV s)) ∧ w' = w := by
  go_enter Tryz.func26, Tryz.ntmps26
  go_wp2
  go_loop [0] (fun v => ∃ t : ByteArray, v = .string t ∧ t.size ≤ 1000000 ∧ Hid (dl t.data.toList = dl s.data.toList)) (fun v => match v with | .string t => t.size | _ => 0)
  case atStart => exact ⟨s, rfl, hs, hide rfl⟩
  case round =>
    obtain ⟨t, rfl, ht, HD⟩ := hrel
    by_cases h0 : 0 < t.size
    · have h0' : 0 < (t.size : Int) := by omega
      have hc := cons_of t h0
      cases hx : ((t[0].toNat : Int) == 32)
      · have HT : Hid (t.data.toList = dl s.data.toList) := hide (by
          rw [← unhide HD, hc, dl_cons_no (by rw [beq_eq_false_iff_ne] at hx ⊢; omega)])
        clear hc
        go_wp2
        go_loop [0] (fun v => ∃ u : ByteArray, v = .string u ∧ u.size ≤ 1000000 ∧ Hid (dl u.data.toList.reverse = dl (dl s.data.toList).reverse)) (fun v => match v with | .string u => u.size | _ => 0)
        case atStart => exact ⟨t, rfl, ht, hide (by rw [unhide HT])⟩
        case round =>
          obtain ⟨u, rfl, hu, HU⟩ := hrel
          by_cases g0 : 0 < u.size
          · obtain ⟨n, hn⟩ : ∃ n, u.size = n + 1 := ⟨u.size - 1, by omega⟩
            have g0' : 0 < (u.size : Int) := by omega
            have en : ((u.size : Int) - 1).toNat = n := by omega
            have en1 : u.size - 1 = n := by omega
            have hlt : n < u.size := by omega
            have hc := snoc_of u n hn
            cases hy : ((u[n].toNat : Int) == 32)
            · have HE : Hid (u = bareV s) := hide (by
                have e : dl u.data.toList.reverse = u.data.toList.reverse := by rw [hc, dl_cons_no (by rw [beq_eq_false_iff_ne] at hy ⊢; omega)]
                have e2 : u.data.toList = (dl (dl s.data.toList).reverse).reverse := by rw [← unhide HU, e, List.reverse_reverse]
                unfold bareV
                rw [← e2])
              clear hc
              go_wp2
              go_ret
              exact ⟨by rw [← unhide HE]; rfl, rfl⟩
            · have HE : Hid (dl (u.extract 0 n).data.toList.reverse = dl (dl s.data.toList).reverse) := hide (by
                rw [← unhide HU, hc, dl_cons_yes (by rw [beq_iff_eq] at hy ⊢; omega)])
              have hsz : (u.extract 0 n).size = n := by rw [ByteArray.size_extract]; omega
              clear hc
              go_wp2
              exact ⟨⟨_, rfl, by omega, HE⟩, by show (u.extract 0 n).size < u.size; omega⟩
          · have hn : u.data.toList = [] := List.eq_nil_of_length_eq_zero (by have : u.data.toList.length = u.size := rfl; omega)
            have HE : Hid (u = bareV s) := hide (by
              have e2 : u.data.toList = (dl (dl s.data.toList).reverse).reverse := by rw [← unhide HU, hn]; rfl
              unfold bareV
              rw [← e2])
            have g0' : ¬ 0 < (u.size : Int) := by omega
            clear hn
            go_wp2
            go_ret
            exact ⟨by rw [← unhide HE]; rfl, rfl⟩
      · have HT : Hid (dl (t.extract 1 t.size).data.toList = dl s.data.toList) := hide (by
          rw [← unhide HD, hc, dl_cons_yes (by rw [beq_iff_eq] at hx ⊢; omega)])
        have hsz : (t.extract 1 t.size).size = t.size - 1 := by rw [ByteArray.size_extract]; omega
        clear hc
        go_wp2
        exact ⟨⟨_, rfl, by omega, HT⟩, by show (t.extract 1 t.size).size < t.size; omega⟩
    · have hn : t.data.toList = [] := List.eq_nil_of_length_eq_zero (by have : t.data.toList.length = t.size := rfl; omega)
      have HT : Hid (t.data.toList = dl s.data.toList) := hide (by rw [← unhide HD, hn]; rfl)
      have h0' : ¬ 0 < (t.size : Int) := by omega
      clear hn
      go_wp2
      go_loop [0] (fun v => ∃ u : ByteArray, v = .string u ∧ u.size ≤ 1000000 ∧ Hid (dl u.data.toList.reverse = dl (dl s.data.toList).reverse)) (fun v => match v with | .string u => u.size | _ => 0)
      case atStart => exact ⟨t, rfl, ht, hide (by rw [unhide HT])⟩
      case round =>
        obtain ⟨u, rfl, hu, HU⟩ := hrel
        by_cases g0 : 0 < u.size
        · obtain ⟨n, hn⟩ : ∃ n, u.size = n + 1 := ⟨u.size - 1, by omega⟩
          have g0' : 0 < (u.size : Int) := by omega
          have en : ((u.size : Int) - 1).toNat = n := by omega
          have en1 : u.size - 1 = n := by omega
          have hlt : n < u.size := by omega
          have hc := snoc_of u n hn
          cases hy : ((u[n].toNat : Int) == 32)
          · have HE : Hid (u = bareV s) := hide (by
              have e : dl u.data.toList.reverse = u.data.toList.reverse := by rw [hc, dl_cons_no (by rw [beq_eq_false_iff_ne] at hy ⊢; omega)]
              have e2 : u.data.toList = (dl (dl s.data.toList).reverse).reverse := by rw [← unhide HU, e, List.reverse_reverse]
              unfold bareV
              rw [← e2])
            clear hc
            go_wp2
            go_ret
            exact ⟨by rw [← unhide HE]; rfl, rfl⟩
          · have HE : Hid (dl (u.extract 0 n).data.toList.reverse = dl (dl s.data.toList).reverse) := hide (by
              rw [← unhide HU, hc, dl_cons_yes (by rw [beq_iff_eq] at hy ⊢; omega)])
            have hsz : (u.extract 0 n).size = n := by rw [ByteArray.size_extract]; omega
            clear hc
            go_wp2
            exact ⟨⟨_, rfl, by omega, HE⟩, by show (u.extract 0 n).size < u.size; omega⟩
        · have hn : u.data.toList = [] := List.eq_nil_of_length_eq_zero (by have : u.data.toList.length = u.size := rfl; omega)
          have HE : Hid (u = bareV s) := hide (by
            have e2 : u.data.toList = (dl (dl s.data.toList).reverse).reverse := by rw [← unhide HU, hn]; rfl
            unfold bareV
            rw [← e2])
          have g0' : ¬ 0 < (u.size : Int) := by omega
          clear hn
          go_wp2
          go_ret
          exact ⟨by rw [← unhide HE]; rfl, rfl⟩
end Go.Proofs.YteaodfeaidjcnaaGreatDoor
