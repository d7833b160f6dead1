/- The contracts of the program's one and word, of layer 3. -/
import Derived.Test.YteaodfeaidjcnaaGreatDoorVpC
import Derived.Laws.IdiomStrings
namespace Go.Proofs.YteaodfeaidjcnaaGreatDoor
open Go.RowKit

theorem conv_byte (w : World) (c : UInt8) :
    (convert 81 9 (.slice (some ⟨w.heap.size, 0, none⟩) 1 1)).run Tryz.prog (w.alloc (.cells #[.int .u8 (c.toNat : Int)] 5)) = .ok (.string ⟨#[c]⟩) (w.alloc (.cells #[.int .u8 (c.toNat : Int)] 5)) := by
  exact run_convert_bytes_back (P := Tryz.prog) (w.alloc (.cells #[.int .u8 (c.toNat : Int)] 5)) 81 9 5 ⟨w.heap.size, 0, none⟩ 1 [c] Tryz.underlying81 Tryz.underlying5 Tryz.underlying9 (fun j hj => by
    have : j = 0 := by simp at hj; exact hj
    subst this
    show _ = some (Value.int .u8 (c.toNat : Int))
    simp [Addr.add])

set_option maxHeartbeats 1000000 in
theorem one_val (c : UInt8) (w : World) :
    Calls Tryz.prog 40 #[.int .u8 (c.toNat : Int)] w fun e w' => e = .returned (.string ⟨#[c]⟩) ∧ Below w.heap.size w w' := by
  have hcv := conv_byte w c
  generalize (c.toNat : Int) = k at hcv ⊢
  go_enter Tryz.func40, Tryz.ntmps40
  go_wp2
  go_ret
  exact ⟨rfl, below_al _ _⟩

/-- A word of 64 bits as bytes, the highest first. -/
def be8 (m : Nat) : List UInt8 := [UInt8.ofNat (m / 72057594037927936 % 256), UInt8.ofNat (m / 281474976710656 % 256), UInt8.ofNat (m / 1099511627776 % 256), UInt8.ofNat (m / 4294967296 % 256), UInt8.ofNat (m / 16777216 % 256), UInt8.ofNat (m / 65536 % 256), UInt8.ofNat (m / 256 % 256), UInt8.ofNat (m % 256)]
/-- The row of eight bytes, of which the last i are written. -/
def rowW (m : Nat) : Nat → Array Value
  | 0 => #[.int .u8 0, .int .u8 0, .int .u8 0, .int .u8 0, .int .u8 0, .int .u8 0, .int .u8 0, .int .u8 0]
  | 1 => #[.int .u8 0, .int .u8 0, .int .u8 0, .int .u8 0, .int .u8 0, .int .u8 0, .int .u8 0, .int .u8 ((m : Int) % 256)]
  | 2 => #[.int .u8 0, .int .u8 0, .int .u8 0, .int .u8 0, .int .u8 0, .int .u8 0, .int .u8 ((m : Int) / 256 % 256), .int .u8 ((m : Int) % 256)]
  | 3 => #[.int .u8 0, .int .u8 0, .int .u8 0, .int .u8 0, .int .u8 0, .int .u8 ((m : Int) / 65536 % 256), .int .u8 ((m : Int) / 256 % 256), .int .u8 ((m : Int) % 256)]
  | 4 => #[.int .u8 0, .int .u8 0, .int .u8 0, .int .u8 0, .int .u8 ((m : Int) / 16777216 % 256), .int .u8 ((m : Int) / 65536 % 256), .int .u8 ((m : Int) / 256 % 256), .int .u8 ((m : Int) % 256)]
  | 5 => #[.int .u8 0, .int .u8 0, .int .u8 0, .int .u8 ((m : Int) / 4294967296 % 256), .int .u8 ((m : Int) / 16777216 % 256), .int .u8 ((m : Int) / 65536 % 256), .int .u8 ((m : Int) / 256 % 256), .int .u8 ((m : Int) % 256)]
  | 6 => #[.int .u8 0, .int .u8 0, .int .u8 ((m : Int) / 1099511627776 % 256), .int .u8 ((m : Int) / 4294967296 % 256), .int .u8 ((m : Int) / 16777216 % 256), .int .u8 ((m : Int) / 65536 % 256), .int .u8 ((m : Int) / 256 % 256), .int .u8 ((m : Int) % 256)]
  | 7 => #[.int .u8 0, .int .u8 ((m : Int) / 281474976710656 % 256), .int .u8 ((m : Int) / 1099511627776 % 256), .int .u8 ((m : Int) / 4294967296 % 256), .int .u8 ((m : Int) / 16777216 % 256), .int .u8 ((m : Int) / 65536 % 256), .int .u8 ((m : Int) / 256 % 256), .int .u8 ((m : Int) % 256)]
  | _ => #[.int .u8 ((m : Int) / 72057594037927936 % 256), .int .u8 ((m : Int) / 281474976710656 % 256), .int .u8 ((m : Int) / 1099511627776 % 256), .int .u8 ((m : Int) / 4294967296 % 256), .int .u8 ((m : Int) / 16777216 % 256), .int .u8 ((m : Int) / 65536 % 256), .int .u8 ((m : Int) / 256 % 256), .int .u8 ((m : Int) % 256)]
def FillAt (m : Nat) (w : World) (B i : Nat) : Prop := w.heap[B]? = some (.cells (rowW m i) 118 (0, 0))
theorem fill_c {m : Nat} {w : World} {B i : Nat} (h : FillAt m w B i) (j : Nat) (v : Value) (hv : (rowW m i)[j]? = some v) : w.cell? ⟨B, j, none⟩ = some v := by
  rw [World.cell?, h]; simpa using hv
theorem fill_f {m : Nat} {w : World} {B i : Nat} (h : FillAt m w B i) (j : Nat) : w.frozen? ⟨B, j, none⟩ = false := frozen_of_row w B j _ _ h
theorem fill_set {m : Nat} {w : World} {B i : Nat} (h : FillAt m w B i) (j : Nat) (v : Value) (e : (rowW m i).setIfInBounds j v = rowW m (i + 1)) : FillAt m (w.setCell ⟨B, j, none⟩ v) B (i + 1) := by
  have := heap_setCell_same w B j _ _ v h
  rw [e] at this
  exact this
theorem fill_end {m : Nat} {w : World} {B : Nat} (h : FillAt m w B 8) :
    (convert 81 9 (.slice (some ⟨B, 0, none⟩) 8 8)).run Tryz.prog w = .ok (.string ⟨(be8 m).toArray⟩) w := by
  exact run_convert_bytes_back (P := Tryz.prog) w 81 9 5 ⟨B, 0, none⟩ 8 (be8 m) Tryz.underlying81 Tryz.underlying5 Tryz.underlying9 (fun j hj => by
    have hadd : (⟨B, 0, none⟩ : Addr).add j = ⟨B, j, none⟩ := by unfold Addr.add; split <;> simp_all
    rw [hadd]
    have h8 : j < 8 := hj
    have hj8 : j = 0 ∨ j = 1 ∨ j = 2 ∨ j = 3 ∨ j = 4 ∨ j = 5 ∨ j = 6 ∨ j = 7 := by omega
    rcases hj8 with rfl | rfl | rfl | rfl | rfl | rfl | rfl | rfl
    · refine fill_c h 0 _ ?_
      show some (Value.int .u8 ((m : Int) / 72057594037927936 % 256)) = some (Value.int .u8 ((UInt8.ofNat (m / 72057594037927936 % 256)).toNat : Int))
      rw [UInt8.toNat_ofNat', show (((m / 72057594037927936 % 256) % 2 ^ 8 : Nat) : Int) = (m : Int) / 72057594037927936 % 256 by omega]
    · refine fill_c h 1 _ ?_
      show some (Value.int .u8 ((m : Int) / 281474976710656 % 256)) = some (Value.int .u8 ((UInt8.ofNat (m / 281474976710656 % 256)).toNat : Int))
      rw [UInt8.toNat_ofNat', show (((m / 281474976710656 % 256) % 2 ^ 8 : Nat) : Int) = (m : Int) / 281474976710656 % 256 by omega]
    · refine fill_c h 2 _ ?_
      show some (Value.int .u8 ((m : Int) / 1099511627776 % 256)) = some (Value.int .u8 ((UInt8.ofNat (m / 1099511627776 % 256)).toNat : Int))
      rw [UInt8.toNat_ofNat', show (((m / 1099511627776 % 256) % 2 ^ 8 : Nat) : Int) = (m : Int) / 1099511627776 % 256 by omega]
    · refine fill_c h 3 _ ?_
      show some (Value.int .u8 ((m : Int) / 4294967296 % 256)) = some (Value.int .u8 ((UInt8.ofNat (m / 4294967296 % 256)).toNat : Int))
      rw [UInt8.toNat_ofNat', show (((m / 4294967296 % 256) % 2 ^ 8 : Nat) : Int) = (m : Int) / 4294967296 % 256 by omega]
    · refine fill_c h 4 _ ?_
      show some (Value.int .u8 ((m : Int) / 16777216 % 256)) = some (Value.int .u8 ((UInt8.ofNat (m / 16777216 % 256)).toNat : Int))
      rw [UInt8.toNat_ofNat', show (((m / 16777216 % 256) % 2 ^ 8 : Nat) : Int) = (m : Int) / 16777216 % 256 by omega]
    · refine fill_c h 5 _ ?_
      show some (Value.int .u8 ((m : Int) / 65536 % 256)) = some (Value.int .u8 ((UInt8.ofNat (m / 65536 % 256)).toNat : Int))
      rw [UInt8.toNat_ofNat', show (((m / 65536 % 256) % 2 ^ 8 : Nat) : Int) = (m : Int) / 65536 % 256 by omega]
    · refine fill_c h 6 _ ?_
      show some (Value.int .u8 ((m : Int) / 256 % 256)) = some (Value.int .u8 ((UInt8.ofNat (m / 256 % 256)).toNat : Int))
      rw [UInt8.toNat_ofNat', show (((m / 256 % 256) % 2 ^ 8 : Nat) : Int) = (m : Int) / 256 % 256 by omega]
    · refine fill_c h 7 _ ?_
      show some (Value.int .u8 ((m : Int) % 256)) = some (Value.int .u8 ((UInt8.ofNat (m % 256)).toNat : Int))
      rw [UInt8.toNat_ofNat', show (((m % 256) % 2 ^ 8 : Nat) : Int) = (m : Int) % 256 by omega])

set_option maxRecDepth 100000 in
set_option maxHeartbeats 1000000 in
theorem word_val (m : Nat) (w : World) (hm : m < 18446744073709551616) :
    Calls Tryz.prog 41 #[.int .u64 (m : Int)] w fun e w' => e = .returned (.string ⟨(be8 m).toArray⟩) ∧ Below w.heap.size w w' := by
  have HM := hide hm
  clear hm
  obtain ⟨S, hS⟩ : ∃ S : ByteArray, ⟨(be8 m).toArray⟩ = S := ⟨_, rfl⟩
  rw [hS]
  have HS := hide hS
  clear hS
  go_enter Tryz.func41, Tryz.ntmps41
  go_wp2
  go_loopw [5] (fun v wr => ∃ i : Nat, v = .int .i64 (i : Int) ∧ i ≤ 8 ∧ Hid (FillAt m wr w.heap.size i) ∧ Hid (Below w.heap.size w wr)) (fun v _ => (8 - intOf v).toNat)
  case atStart => exact ⟨0, rfl, by omega, hide (heap_alloc_new _ _), hide (below_al _ _)⟩
  case round =>
    obtain ⟨i, rfl, hi, HF, HB⟩ := hrel
    have h8 : i = 0 ∨ i = 1 ∨ i = 2 ∨ i = 3 ∨ i = 4 ∨ i = 5 ∨ i = 6 ∨ i = 7 ∨ i = 8 := by omega
    clear hi
    rcases h8 with rfl | rfl | rfl | rfl | rfl | rfl | rfl | rfl | rfl
    · have hc := fill_c (unhide HF) 7 _ rfl
      have hf := fill_f (unhide HF) 7
      go_wp2
      exact ⟨⟨1, rfl, by omega, hide (fill_set (unhide HF) 7 _ rfl), hide ((unhide HB).setCell (Nat.le_refl _) _)⟩, by decide⟩
    · have hc := fill_c (unhide HF) 6 _ rfl
      have hf := fill_f (unhide HF) 6
      go_wp2
      exact ⟨⟨2, rfl, by omega, hide (fill_set (unhide HF) 6 _ rfl), hide ((unhide HB).setCell (Nat.le_refl _) _)⟩, by decide⟩
    · have hc := fill_c (unhide HF) 5 _ rfl
      have hf := fill_f (unhide HF) 5
      go_wp2
      exact ⟨⟨3, rfl, by omega, hide (fill_set (unhide HF) 5 _ rfl), hide ((unhide HB).setCell (Nat.le_refl _) _)⟩, by decide⟩
    · have hc := fill_c (unhide HF) 4 _ rfl
      have hf := fill_f (unhide HF) 4
      go_wp2
      exact ⟨⟨4, rfl, by omega, hide (fill_set (unhide HF) 4 _ rfl), hide ((unhide HB).setCell (Nat.le_refl _) _)⟩, by decide⟩
    · have hc := fill_c (unhide HF) 3 _ rfl
      have hf := fill_f (unhide HF) 3
      go_wp2
      exact ⟨⟨5, rfl, by omega, hide (fill_set (unhide HF) 3 _ rfl), hide ((unhide HB).setCell (Nat.le_refl _) _)⟩, by decide⟩
    · have hc := fill_c (unhide HF) 2 _ rfl
      have hf := fill_f (unhide HF) 2
      go_wp2
      exact ⟨⟨6, rfl, by omega, hide (fill_set (unhide HF) 2 _ rfl), hide ((unhide HB).setCell (Nat.le_refl _) _)⟩, by decide⟩
    · have hc := fill_c (unhide HF) 1 _ rfl
      have hf := fill_f (unhide HF) 1
      go_wp2
      exact ⟨⟨7, rfl, by omega, hide (fill_set (unhide HF) 1 _ rfl), hide ((unhide HB).setCell (Nat.le_refl _) _)⟩, by decide⟩
    · have hc := fill_c (unhide HF) 0 _ rfl
      have hf := fill_f (unhide HF) 0
      go_wp2
      exact ⟨⟨8, rfl, by omega, hide (fill_set (unhide HF) 0 _ rfl), hide ((unhide HB).setCell (Nat.le_refl _) _)⟩, by decide⟩
    · have hcv := fill_end (unhide HF)
      rw [unhide HS] at hcv
      go_wp2
      go_ret
      exact ⟨rfl, unhide HB⟩
end Go.Proofs.YteaodfeaidjcnaaGreatDoor
