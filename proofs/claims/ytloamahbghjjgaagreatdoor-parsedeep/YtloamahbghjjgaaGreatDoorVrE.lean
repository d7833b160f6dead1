/- The contracts of the reference's Lower and Upper, of layer 3. -/
import Derived.Test.YtloamahbghjjgaaGreatDoorVrZ
import Derived.Laws.IdiomStrings
namespace Go.Proofs.YtloamahbghjjgaaGreatDoor
open Go.RowKit

def lowC (c : UInt8) : UInt8 := if 65 ≤ c.toNat ∧ c.toNat ≤ 90 then UInt8.ofNat (c.toNat + 32) else c
def upC (c : UInt8) : UInt8 := if 97 ≤ c.toNat ∧ c.toNat ≤ 122 then UInt8.ofNat (c.toNat - 32) else c
def mapB (f : UInt8 → UInt8) (s : ByteArray) : ByteArray := ⟨(s.data.toList.map f).toArray⟩
theorem mapB_size (f : UInt8 → UInt8) (s : ByteArray) : (mapB f s).size = s.size := by
  unfold mapB ByteArray.size; simp

/-- The byte at a place. -/
def byteAt (s : ByteArray) (j : Nat) : UInt8 := s.data.toList.getD j 0
/-- Bytes in a block: those below i are turned. -/
def TurnAt (f : UInt8 → UInt8) (s : ByteArray) (w : World) (B i : Nat) : Prop :=
  B < w.heap.size ∧ ∀ j, j < s.size → w.cell? ⟨B, j, none⟩ = some (.int .u8 (((if j < i then f (byteAt s j) else byteAt s j).toNat : Nat) : Int)) ∧ w.frozen? ⟨B, j, none⟩ = false
theorem turn_set {f : UInt8 → UInt8} {s : ByteArray} {w : World} {B i : Nat} (h : TurnAt f s w B i) (hi : i < s.size) : TurnAt f s (w.setCell ⟨B, i, none⟩ (.int .u8 ((f (byteAt s i)).toNat : Int))) B (i + 1) := by
  refine ⟨by simpa using h.1, fun j hj => ⟨?_, by rw [World.frozen?_setCell]; exact (h.2 j hj).2⟩⟩
  by_cases e : j = i
  · subst e
    rw [World.cell?_setCell_same _ _ _ (h.2 j hj).1, if_pos (by omega)]
  · rw [World.cell?_setCell_other _ _ _ _ (by intro hc; injection hc with _ h2; omega), (h.2 j hj).1]
    by_cases h1 : j < i
    · rw [if_pos h1, if_pos (by omega)]
    · rw [if_neg h1, if_neg (by omega)]
theorem turn_same {f : UInt8 → UInt8} {s : ByteArray} {w : World} {B i : Nat} (h : TurnAt f s w B i) (hf : f (byteAt s i) = byteAt s i) : TurnAt f s w B (i + 1) := by
  refine ⟨h.1, fun j hj => ⟨?_, (h.2 j hj).2⟩⟩
  rw [(h.2 j hj).1]
  by_cases e : j = i
  · subst e; rw [if_neg (by omega), if_pos (by omega), hf]
  · by_cases h1 : j < i
    · rw [if_pos h1, if_pos (by omega)]
    · rw [if_neg h1, if_neg (by omega)]
theorem turn_start (f : UInt8 → UInt8) (s : ByteArray) (w : World) (c : Nat) :
    TurnAt f s (w.drew.alloc (.cells (bytesRow s c) 5 ((bytesRow s c).size, (bytesRow s c).size + 1))) w.heap.size 0 := by
  have hh : (w.drew.alloc (.cells (bytesRow s c) 5 ((bytesRow s c).size, (bytesRow s c).size + 1))).heap[w.heap.size]? = some (.cells (bytesRow s c) 5 ((bytesRow s c).size, (bytesRow s c).size + 1)) := heap_alloc_new _ _
  refine ⟨by show w.heap.size < (w.heap.push _).size; simp, fun j hj => ⟨?_, ?_⟩⟩
  · rw [if_neg (by omega)]
    have h1 := bytesRow_at s c j hj
    simp only [World.cell?, hh]
    rw [if_neg (by simp), h1]
    unfold byteAt
    rw [List.getD_eq_getElem?_getD, List.getElem?_eq_getElem (by exact hj)]
    rfl
  · have h2 : s.size ≤ (bytesRow s c).size := by
      show s.data.size ≤ _
      unfold bytesRow
      rw [Array.size_append, Array.size_map]
      omega
    simp only [World.frozen?, hh]
    rw [Bool.and_eq_false_iff]
    exact Or.inl (decide_eq_false (by simp; omega))
theorem turn_end {f : UInt8 → UInt8} {s : ByteArray} {w : World} {B i : Nat} (h : TurnAt f s w B i) (hi : s.size ≤ i) (cap : Nat) :
    (convert 166 9 (.slice (some ⟨B, 0, none⟩) s.size cap)).run Tryz.prog w = .ok (.string (mapB f s)) w := by
  have e : (s.data.toList.map f).length = s.size := by rw [List.length_map]; rfl
  have := run_convert_bytes_back (P := Tryz.prog) w 166 9 5 ⟨B, 0, none⟩ cap (s.data.toList.map f) Tryz.underlying166 Tryz.underlying5 Tryz.underlying9 (fun j hj => by
    rw [e] at hj
    have := (h.2 j hj).1
    rw [if_pos (by omega)] at this
    rw [show (⟨B, 0, none⟩ : Addr).add j = ⟨B, j, none⟩ by simp [Addr.add]; omega]
    rw [this, List.getElem_map]
    unfold byteAt
    rw [List.getD_eq_getElem?_getD, List.getElem?_eq_getElem (by exact hj)]
    rfl)
  rw [e] at this
  exact this

set_option maxRecDepth 100000 in
set_option maxHeartbeats 2000000 in
theorem upper_ref (s : ByteArray) (w : World) (hs : s.size ≤ 1000000) :
    Calls Tryz.prog 82 #[.string s] w fun e w' => e = .returned (.string (mapB upC s)) ∧ Below w.heap.size w w' := by
  have hc := run_bytes_of_string (P := Tryz.prog) w 9 166 5 s Tryz.underlying9 Tryz.underlying166 Tryz.underlying5
  obtain ⟨c, hcc⟩ : ∃ c, grownCap w s.size 0 5 = c := ⟨_, rfl⟩
  rw [hcc] at hc
  clear hcc
  have HT := hide (turn_start upC s w c)
  have HB : Hid (Below w.heap.size w (w.drew.alloc (.cells (bytesRow s c) 5 ((bytesRow s c).size, (bytesRow s c).size + 1)))) := hide ((Below.refl _ _).drew.alloc (Nat.le_refl _) _)
  obtain ⟨w0, hw0⟩ : ∃ w0, w.drew.alloc (.cells (bytesRow s c) 5 ((bytesRow s c).size, (bytesRow s c).size + 1)) = w0 := ⟨_, rfl⟩
  rw [hw0] at hc HT HB
  clear hw0
  obtain ⟨n, hn⟩ : ∃ n, s.size = n := ⟨_, rfl⟩
  rw [hn] at hc hs
  have HN := hide hn
  go_enter Tryz.func82, Tryz.ntmps82
  go_wp2
  clear hc
  go_loopw [4] (fun t wr => ∃ i : Nat, t = .int .i64 (i : Int) ∧ i ≤ n ∧ Hid (TurnAt upC s wr w.heap.size i) ∧ Hid (Below w.heap.size w wr)) (fun t _ => n - (intOf t).toNat)
  case atStart => exact ⟨0, rfl, by omega, HT, HB⟩
  case round =>
    clear HT HB
    obtain ⟨i, rfl, hi, HT, HB⟩ := hrel
    by_cases hin : i < n
    · obtain ⟨c0, f0⟩ := (unhide HT).2 i (by omega)
      rw [if_neg (by omega)] at c0
      obtain ⟨x, hx⟩ : ∃ x, byteAt s i = x := ⟨_, rfl⟩
      have hx8 : x.toNat < 256 := x.toNat_lt
      rw [hx] at c0
      have HX := hide hx
      obtain ⟨k, hk⟩ : ∃ k : Nat, x.toNat = k := ⟨_, rfl⟩
      rw [hk] at c0 hx8
      have HK := hide hk
      clear hx hk
      by_cases h1 : 97 ≤ k
      · by_cases h2 : k ≤ 122
        · have TS : Hid (TurnAt upC s (wr.setCell ⟨w.heap.size, i, none⟩ (.int .u8 ((k : Int) - 32))) w.heap.size (i + 1)) := hide (by
            have h := turn_set (unhide HT) (by have := unhide HN; omega)
            rw [unhide HX] at h
            have e : ((upC x).toNat : Int) = (k : Int) - 32 := by
              unfold upC
              rw [unhide HK, if_pos ⟨h1, h2⟩, UInt8.toNat_ofNat']
              omega
            rw [e] at h
            exact h)
          have HB2 := hide ((unhide HB).setCell (p := ⟨w.heap.size, i, none⟩) (Nat.le_refl _) (.int .u8 ((k : Int) - 32)))
          go_wp2
          go_roundw
          case rel => exact ⟨i + 1, by go_num, by omega, TS, HB2⟩
          case measure => simp [intOf]; omega
        · have TS := hide (turn_same (unhide HT) (by rw [unhide HX]; unfold upC; rw [unhide HK, if_neg (by omega)]))
          have d2 : decide ((k : Int) ≤ 122) = false := decide_eq_false (by omega)
          go_wp2
          go_roundw
          case rel => exact ⟨i + 1, by go_num, by omega, TS, HB⟩
          case measure => simp [intOf]; omega
      · have TS := hide (turn_same (unhide HT) (by rw [unhide HX]; unfold upC; rw [unhide HK, if_neg (by omega)]))
        have d1 : decide (97 ≤ (k : Int)) = false := decide_eq_false (by omega)
        go_wp2
        go_roundw
        case rel => exact ⟨i + 1, by go_num, by omega, TS, HB⟩
        case measure => simp [intOf]; omega
    · have hb := turn_end (unhide HT) (by have := unhide HN; omega) c
      rw [unhide HN] at hb
      go_wp2
      go_ret
      exact ⟨rfl, unhide HB⟩
end Go.Proofs.YtloamahbghjjgaaGreatDoor
