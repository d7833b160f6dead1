/- The contract of the program's number, of layer 3. -/
import Derived.Test.YteaodfeaidjcnaaDoorVpC
import Derived.Laws.BitsAllLaws
namespace Go.Proofs.YteaodfeaidjcnaaDoor
open Go.RowKit

/-- The first i bytes of a text as a number. -/
def valB (u : ByteArray) : Nat → Nat
  | 0 => 0
  | i + 1 => 256 * valB u i + (byteAt u i).toNat
theorem valB_lt (u : ByteArray) (i : Nat) : valB u i < 256 ^ i := by
  induction i with
  | zero => show 0 < 256 ^ 0; decide
  | succ i ih =>
    unfold valB
    have := (byteAt u i).toNat_lt
    rw [Nat.pow_succ]
    omega
theorem shift_or (m : Nat) (b : UInt8) (hm : m < 72057594037927936) : bits BinOp.or IntKind.u64 (IntKind.u64.wrap ((m : Int) * 256)) (IntKind.u64.wrap (b.toNat : Int)) = ((256 * m + b.toNat : Nat) : Int) := by
  have hb := b.toNat_lt
  rw [IntKind.wrap_u64, IntKind.wrap_u64, show ((m : Int) * 256) % 18446744073709551616 = ((2 ^ 8 * m : Nat) : Int) by omega, show (b.toNat : Int) % 18446744073709551616 = (b.toNat : Int) by omega,
    u64_or_nat _ _ (by omega) (by omega), ← Nat.two_pow_add_eq_or_of_lt (by omega)]
theorem byte_at (u : ByteArray) (i : Nat) (h : i < u.size) : byteAt u i = u[i] := by
  unfold byteAt
  rw [List.getD_eq_getElem?_getD, List.getElem?_eq_getElem (by exact h)]; rfl

set_option maxRecDepth 100000 in
set_option maxHeartbeats 1000000 in
theorem number_val (u : ByteArray) (w : World) (hu : u.size = 8) :
    Calls Tryd.prog 55 #[.string u] w fun e w' => e = .returned (.int .u64 (valB u 8 : Nat)) ∧ w' = w := by
  obtain ⟨V, hV⟩ : ∃ V, valB u 8 = V := ⟨_, rfl⟩
  rw [hV]
  have HV := hide hV
  clear hV
  go_enter Tryd.func55, Tryd.ntmps55
  go_wp2
  go_loopw [7, 3] (fun v n wr => ∃ (i m : Nat), v = .int .i64 (i : Int) ∧ i ≤ 8 ∧ n = .int .u64 (m : Int) ∧ Hid (valB u i = m) ∧ wr = w) (fun v _ _ => (8 - intOf v).toNat)
  case atStart => exact ⟨0, 0, rfl, by omega, rfl, hide rfl, rfl⟩
  case round =>
    obtain ⟨i, m, rfl, hi, rfl, HM, rfl⟩ := hrel
    by_cases h8 : i < 8
    · have hv : m < 72057594037927936 := by
        have h1 := valB_lt u i
        have h2 : 256 ^ i ≤ 256 ^ 7 := Nat.pow_le_pow_right (by omega) (by omega)
        have h3 : (256 : Nat) ^ 7 = 72057594037927936 := by decide
        rw [unhide HM] at h1
        omega
      have hb : i < u.size := by omega
      have HO := hide (shift_or m u[i] hv)
      have HN : Hid (valB u (i + 1) = 256 * m + u[i].toNat) := hide (by
        show 256 * valB u i + (byteAt u i).toNat = _
        rw [unhide HM, byte_at u i hb])
      clear hv
      go_wp2
      refine ⟨⟨i + 1, 256 * m + u[i].toNat, rfl, by omega, ?_, HN, trivial⟩, by simp [intOf]; omega⟩
      rw [unhide HO]
    · have E : Hid (m = V) := hide (by rw [← unhide HM, ← unhide HV, show i = 8 by omega])
      obtain rfl : i = 8 := by omega
      clear h8
      go_wp2
      go_ret
      exact ⟨by rw [unhide E]; rfl, rfl⟩
end Go.Proofs.YteaodfeaidjcnaaDoor
