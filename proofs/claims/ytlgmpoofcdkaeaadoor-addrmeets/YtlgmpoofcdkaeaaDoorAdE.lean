/- What the program's texts of layer 4 lean on; the contracts of letters, mark, Text of a cell, column; of the reference's Columns, Digits, RefText. -/
import Derived.Test.YtlgmpoofcdkaeaaDoorAdD
import Derived.Test.YtlgmpoofcdkaeaaDoorShelf
import Derived.Deep.RegionHeld3
import Derived.Lib.ItoaMem
import Derived.Test.YtlgmpoofcdkaeaaDoorVpD
namespace Go.Proofs.YtlgmpoofcdkaeaaDoor
open Go.RowKit

/-- What a law's first world holds, and every later one: the table of powers of ten, the cell of MaxLen. -/
structure Env4 (w : World) : Prop where
  tab : Lib.TabIs Tryd.prog w "internal/strconv.uint64pow10" .u64 Lib.pow10Tab
  len : ∃ m : Int, w.cell? ⟨3, 0, none⟩ = some (.int .i64 m)
theorem Env4.below {w w' : World} (h : Env4 w) (hb : Below w.heap.size w w') : Env4 w' := by
  refine ⟨?_, ?_⟩
  · have h := h.tab
    unfold Lib.TabIs World.var? at *
    cases hg : Tryd.prog.globalNamed "internal/strconv.uint64pow10" with
    | none => simp [hg] at h
    | some g =>
      simp only [hg, Option.bind_some] at h ⊢
      have hlt : g < w.heap.size := by
        rcases Nat.lt_or_ge g w.heap.size with h' | h'
        · exact h'
        · rw [Array.getElem?_eq_none h'] at h; simp at h
      rw [hb.block g hlt]
      exact h
  · obtain ⟨m, hm⟩ := h.len
    refine ⟨m, ?_⟩
    have hlt : 3 < w.heap.size := by
      rcases Nat.lt_or_ge 3 w.heap.size with h' | h'
      · exact h'
      · simp [World.cell?, Array.getElem?_eq_none h'] at hm
    rw [hb.cell (p := ⟨3, 0, none⟩) hlt]
    exact hm
theorem app4 (x y : List UInt8) : (⟨x.toArray⟩ : ByteArray) ++ ⟨y.toArray⟩ = ⟨(x ++ y).toArray⟩ := by
  apply ByteArray.ext; simp
theorem app4_list (x y : ByteArray) : (x ++ y).data.toList = x.data.toList ++ y.data.toList := by simp
theorem itoa4 (n : Nat) (w : World) (hn : n < 10000) (he : Env4 w) :
    Calls Tryd.prog 40 #[.int .i64 (n : Int)] w fun e w' => e = .returned (.string ⟨(dgT n).toArray⟩) ∧ Below w.heap.size w w' :=
  (Tryd.strconv_Itoa (n : Int) (by omega) (by omega) w he.tab).mono (fun e w' ⟨h1, k, os, h2⟩ => ⟨by
    rw [h1]
    unfold Lib.itoa
    rw [if_neg (by omega), Int.toNat_natCast, dec_dg n hn], by rw [h2]; exact ⟨rfl, rfl, rfl, by show w.heap.size ≤ (w.heap ++ os).size; rw [Array.size_append]; omega, fun j hj => by show (w.heap ++ os)[j]? = w.heap[j]?; exact Array.getElem?_append_left hj⟩⟩)
theorem conv1 (w : World) (x : Int) (h0 : 0 ≤ x) (h9 : x < 256) :
    (convert 67 9 (.slice (some ⟨w.heap.size, 0, none⟩) 1 1)).run Tryd.prog (w.alloc (.cells #[.int .u8 x] 5)) = .ok (.string ⟨#[UInt8.ofNat x.toNat]⟩) (w.alloc (.cells #[.int .u8 x] 5)) := by
  have e : ((UInt8.ofNat x.toNat).toNat : Int) = x := by
    rw [UInt8.toNat_ofNat']
    omega
  exact run_convert_bytes_back (P := Tryd.prog) (w.alloc (.cells #[.int .u8 x] 5)) 67 9 5 ⟨w.heap.size, 0, none⟩ 1 [UInt8.ofNat x.toNat] Tryd.underlying67 Tryd.underlying5 Tryd.underlying9 (fun j hj => by
    have : j = 0 := by simp at hj; exact hj
    subst this
    show _ = some (Value.int .u8 ((UInt8.ofNat x.toNat).toNat : Int))
    rw [e]
    simp [Addr.add])
def colW (k : Nat) : List UInt8 := if k = 0 then [] else colT (k - 1)
theorem colW_step (m : Nat) (h : m < 64) : colW (m / 26) ++ [UInt8.ofNat (65 + m % 26)] = colW (m + 1) := by
  have e : colW (m + 1) = colT m := by unfold colW; rw [if_neg (by omega)]; rfl
  rw [e]
  unfold colT
  by_cases h1 : m < 26
  · rw [if_pos h1, show m / 26 = 0 by omega, show m % 26 = m by omega]; rfl
  · rw [if_neg h1]
    unfold colW
    rw [if_neg (by omega)]
    unfold colT
    rw [if_pos (by omega), show 65 + (m / 26 - 1) = 64 + m / 26 by omega]; rfl

set_option maxRecDepth 100000 in
set_option maxHeartbeats 2000000 in
theorem letters_val (n : Nat) (w : World) (hn : n < 64) :
    Calls Tryd.prog 39 #[.int .i64 (n : Int)] w fun e w' => e = .returned (.string ⟨(colT n).toArray⟩) ∧ Below w.heap.size w w' := by
  go_enter Tryd.func39, Tryd.ntmps39
  go_wp2
  go_loopw [3, 4] (fun s m wr => ∃ (k : Nat) (sb : ByteArray), m = .int .i64 (k : Int) ∧ s = .string sb ∧ sb.size + k ≤ 65 ∧ k ≤ 64 ∧ Hid (colW k ++ sb.data.toList = colT n) ∧ Hid (Below w.heap.size w wr)) (fun _ m _ => (intOf m).toNat)
  case atStart => exact ⟨n + 1, ⟨#[]⟩, by go_num, rfl, by show 0 + (n + 1) ≤ 65; omega, by omega, hide (by rw [show (⟨#[]⟩ : ByteArray).data.toList = [] from rfl, List.append_nil]; unfold colW; rw [if_neg (by omega)]; rfl), hide (Below.refl _ _)⟩
  case round =>
    obtain ⟨k, sb, rfl, rfl, hsz, hk, HC, HB⟩ := hrel
    by_cases h0 : k = 0
    · subst h0
      go_wp2
      go_ret
      exact ⟨by rw [← unhide HC]; rfl, unhide HB⟩
    · obtain ⟨m, rfl⟩ : ∃ m, k = m + 1 := ⟨k - 1, by omega⟩
      have e1 : ((m + 1 : Nat) : Int) - 1 = (m : Int) := by omega
      have e2 : 0 < ((m + 1 : Nat) : Int) := by omega
      have hm : m < 64 := by omega
      have hcv := conv1 wr (65 + ((m : Int) % 26)) (by omega) (by omega)
      obtain ⟨C, hC⟩ : ∃ C, UInt8.ofNat (65 + ((m : Int) % 26)).toNat = C := ⟨_, rfl⟩
      rw [hC] at hcv
      have HK : Hid (colW (m / 26) ++ [C] = colW (m + 1)) := hide (by rw [← colW_step m hm, ← hC, show (65 + ((m : Int) % 26)).toNat = 65 + m % 26 by omega])
      clear hC
      clear h0 hk
      generalize ((m + 1 : Nat) : Int) = z at e1 e2 ⊢
      go_wp2
      exact ⟨⟨m / 26, ⟨#[C]⟩ ++ sb, by go_num, rfl, by rw [ByteArray.size_append, show (⟨#[C]⟩ : ByteArray).size = 1 from rfl]; omega, by omega, hide (by
        rw [← unhide HC, ← unhide HK, app4_list, List.append_assoc]), hide ((unhide HB).alloc (unhide HB).size _)⟩, by simp [intOf]; omega⟩
theorem mark_val (b : Bool) (w : World) : Calls Tryd.prog 38 #[.bool b] w fun e w' => e = .returned (.string ⟨(dlr b).toArray⟩) ∧ Below w.heap.size w w' := by
  cases b
  · go_enter Tryd.func38, Tryd.ntmps38
    go_wp2
    go_ret
    exact ⟨rfl, Below.refl _ _⟩
  · go_enter Tryd.func38, Tryd.ntmps38
    go_wp2
    go_ret
    exact ⟨rfl, Below.refl _ _⟩
theorem colW_col (k : Nat) (h : k < 64) (h0 : 26 ≤ k) : [UInt8.ofNat (65 + (k / 26 - 1)), UInt8.ofNat (65 + k % 26)] = colT k := by
  unfold colT; rw [if_neg (by omega), show 65 + (k / 26 - 1) = 64 + k / 26 by omega]

set_option maxRecDepth 100000 in
set_option maxHeartbeats 2000000 in
theorem columns_ref (n : Nat) (w : World) (hn : n < 64) :
    Calls Tryd.prog 34 #[.int .i64 (n : Int)] w fun e w' => e = .returned (.string ⟨(colT n).toArray⟩) ∧ Below w.heap.size w w' := by
  go_enter Tryd.func34, Tryd.ntmps34
  go_wp2
  go_loop [3, 4, 5] (fun a b i => ∃ (k x : Nat) (y : Int), i = .int .i64 (k : Int) ∧ a = .int .i64 (x : Int) ∧ b = .int .i64 y ∧ k ≤ n ∧ x < 26 ∧ -1 ≤ y ∧ y ≤ 2 ∧ Hid ((k : Int) = 26 * (y + 1) + x)) (fun _ _ i => n - (intOf i).toNat)
  case atStart => exact ⟨0, 0, -1, rfl, rfl, rfl, by omega, by omega, by omega, by omega, hide (by omega)⟩
  case round =>
    obtain ⟨k, x, y, rfl, rfl, rfl, hk, hx, hy, hy2, HKX⟩ := hrel
    by_cases hlt : k < n
    · by_cases h25 : x = 25
      · subst h25
        go_wp2
        go_round
        case rel => exact ⟨k + 1, 0, y + 1, by go_num, rfl, rfl, by omega, by omega, by omega, by have := unhide HKX; omega, hide (by have := unhide HKX; omega)⟩
        case measure => simp [intOf]; omega
      · have hb : (((x : Int) + 1) == 26) = false := by rw [beq_eq_false_iff_ne]; omega
        have h24 : x < 25 := by omega
        clear h25
        go_wp2
        go_round
        case rel => exact ⟨k + 1, x + 1, y, by go_num, by go_num, rfl, by omega, by omega, by omega, by omega, hide (by have := unhide HKX; omega)⟩
        case measure => simp [intOf]; omega
    · have hkn : k = n := by omega
      subst hkn
      have hkx := unhide HKX
      have hcv := conv1 w (65 + (x : Int)) (by omega) (by omega)
      obtain ⟨C, hC⟩ : ∃ C, UInt8.ofNat (65 + (x : Int)).toNat = C := ⟨_, rfl⟩
      rw [hC] at hcv
      by_cases h0 : 0 ≤ y
      · have hcv2 := conv1 (w.alloc (.cells #[.int .u8 (65 + (x : Int))] 5)) (65 + y) (by omega) (by omega)
        obtain ⟨D, hD⟩ : ∃ D, UInt8.ofNat (65 + y).toNat = D := ⟨_, rfl⟩
        rw [hD] at hcv2
        have HK : Hid ([D, C] = colT k) := hide (by rw [← colW_col k hn (by omega), ← hC, ← hD, show (65 + (x : Int)).toNat = 65 + k % 26 by omega, show (65 + y).toNat = 65 + (k / 26 - 1) by omega])
        have hh : (w.alloc (.cells #[.int .u8 (65 + (x : Int))] 5)).heap.size = w.heap.size + 1 := by simp
        rw [hh] at hcv2
        clear hC hD hh hlt hkx
        go_wp2
        go_ret
        exact ⟨by rw [← unhide HK]; rfl, below_al2 _ _ _⟩
      · have HK : Hid ([C] = colT k) := hide (by unfold colT; rw [if_pos (by omega), ← hC, show (65 + (x : Int)).toNat = 65 + k by omega])
        clear hC hlt hkx
        go_wp2
        go_ret
        exact ⟨by rw [← unhide HK]; rfl, below_al _ _⟩
theorem dec_step (k : Nat) (h : 9 < k) : Lib.decDigits (k / 10) ++ [UInt8.ofNat (48 + k % 10)] = Lib.decDigits k := by
  conv => rhs; rw [Lib.decDigits]
  rw [dif_neg (by omega)]

set_option maxRecDepth 100000 in
set_option maxHeartbeats 2000000 in
theorem digits4_ref (n : Nat) (w : World) (hn : n < 10000) :
    Calls Tryd.prog 35 #[.int .i64 (n : Int)] w fun e w' => e = .returned (.string ⟨(dgT n).toArray⟩) ∧ Below w.heap.size w w' := by
  rw [← dec_dg n hn]
  go_enter Tryd.func35, Tryd.ntmps35
  go_wp2
  go_loopw [0, 3] (fun m s wr => ∃ (k : Nat) (sb : ByteArray), m = .int .i64 (k : Int) ∧ s = .string sb ∧ sb.size + k ≤ 10000 ∧ Hid (Lib.decDigits k ++ sb.data.toList = Lib.decDigits n) ∧ Hid (Below w.heap.size w wr)) (fun m _ _ => (intOf m).toNat)
  case atStart => exact ⟨n, ⟨#[]⟩, rfl, rfl, by show 0 + n ≤ 10000; omega, hide (by rw [show (⟨#[]⟩ : ByteArray).data.toList = [] from rfl, List.append_nil]), hide (Below.refl _ _)⟩
  case round =>
    obtain ⟨k, sb, rfl, rfl, hsz, HC, HB⟩ := hrel
    by_cases h9 : 9 < k
    · have hcv := conv1 wr (48 + ((k : Int) % 10)) (by omega) (by omega)
      obtain ⟨C, hC⟩ : ∃ C, UInt8.ofNat (48 + ((k : Int) % 10)).toNat = C := ⟨_, rfl⟩
      rw [hC] at hcv
      have HK : Hid (Lib.decDigits (k / 10) ++ [C] = Lib.decDigits k) := hide (by rw [← dec_step k h9, ← hC, show (48 + ((k : Int) % 10)).toNat = 48 + k % 10 by omega])
      clear hC
      go_wp2
      exact ⟨⟨k / 10, ⟨#[C]⟩ ++ sb, by go_num, rfl, by rw [ByteArray.size_append, show (⟨#[C]⟩ : ByteArray).size = 1 from rfl]; omega, hide (by
        rw [← unhide HC, ← unhide HK, app4_list, List.append_assoc]), hide ((unhide HB).alloc (unhide HB).size _)⟩, by simp [intOf]; omega⟩
    · have hcv := conv1 wr (48 + (k : Int)) (by omega) (by omega)
      obtain ⟨C, hC⟩ : ∃ C, UInt8.ofNat (48 + (k : Int)).toNat = C := ⟨_, rfl⟩
      rw [hC] at hcv
      have HK : Hid ([C] = Lib.decDigits k) := hide (by rw [Lib.decDigits, dif_pos (by omega), ← hC, show (48 + (k : Int)).toNat = 48 + k by omega])
      clear hC
      go_wp2
      go_ret
      exact ⟨by rw [← unhide HC, ← unhide HK, ← app4]; rfl, (unhide HB).alloc (unhide HB).size _⟩
end Go.Proofs.YtlgmpoofcdkaeaaDoor
