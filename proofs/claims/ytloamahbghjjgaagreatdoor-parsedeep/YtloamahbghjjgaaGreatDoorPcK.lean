/- The contracts of slices.Index and slices.Contains at rows of texts. -/
import Derived.Test.YtloamahbghjjgaaGreatDoorPcC
namespace Go.Proofs.YtloamahbghjjgaaGreatDoor
open Go.RowKit

/-- Texts where a slice lies. -/
def StrsIn (w : World) (a : Option Addr) (ss : List ByteArray) : Prop :=
  ss = [] ∨ ∃ g off, a = some ⟨g, off, none⟩ ∧ g < w.heap.size ∧ ∀ (i : Nat) (s : ByteArray), ss[i]? = some s → w.cell? ⟨g, off + i, none⟩ = some (.string s)
theorem strs_below {w w' : World} {a : Option Addr} {ss : List ByteArray} (h : StrsIn w a ss) (hb : Below w.heap.size w w') : StrsIn w' a ss := by
  rcases h with h | ⟨g, off, rfl, hg, hc⟩
  · exact Or.inl h
  · exact Or.inr ⟨g, off, rfl, Nat.lt_of_lt_of_le hg hb.size, fun i k hi => by rw [hb.cell (p := ⟨g, off + i, none⟩) hg]; exact hc i k hi⟩
theorem strs_at {w : World} {a : Option Addr} {ss : List ByteArray} (h : StrsIn w a ss) (i : Nat) (s : ByteArray) (hi : ss[i]? = some s) : ∃ g off, a = some ⟨g, off, none⟩ ∧ w.cell? ⟨g, off + i, none⟩ = some (.string s) := by
  rcases h with h | ⟨g, off, rfl, hg, hc⟩
  · rw [h] at hi; simp at hi
  · exact ⟨g, off, rfl, hc i _ hi⟩
def hasS (ss : List ByteArray) (x : ByteArray) : Bool := ss.any fun s => x.toList == s.toList
set_option maxRecDepth 100000 in
set_option maxHeartbeats 2000000 in
theorem sindex_val (a : Option Addr) (cap : Nat) (ss : List ByteArray) (x : ByteArray) (w : World) (ha : StrsIn w a ss) (hx : ss.length ≤ 100000) :
    Calls Tryz.prog 166 #[.slice a ss.length cap, .string x] w fun e w' => (∃ v : Int, e = .returned (.int .i64 v) ∧ decide (0 ≤ v) = hasS ss x) ∧ Below w.heap.size w w' := by
  have HA := hide ha
  clear ha
  obtain ⟨n, hn⟩ : ∃ n, ss.length = n := ⟨_, rfl⟩
  have HN := hide hn
  rw [hn] at hx ⊢
  clear hn
  obtain ⟨bq, hbq⟩ : ∃ bq, hasS ss x = bq := ⟨_, rfl⟩
  have HQ := hide hbq
  rw [hbq]
  clear hbq
  go_enter Tryz.func166, Tryz.ntmps166
  go_wp2_with fail
  go_loopw [8] (fun v wr => ∃ k : Nat, v = .int .i64 (k : Int) ∧ k ≤ n ∧ Hid (hasS (ss.take k) x = false) ∧ Hid (Below w.heap.size w wr)) (fun v _ => n - (intOf v).toNat)
  case atStart => exact ⟨0, rfl, by omega, hide rfl, hide (Below.refl _ _)⟩
  case round =>
    obtain ⟨k, rfl, hk, HT, HBW⟩ := hrel
    by_cases hlt : k < n
    · have hlti : (k : Int) < (n : Int) := by omega
      obtain ⟨s, hs⟩ : ∃ s, ss[k]? = some s := ⟨_, List.getElem?_eq_getElem (by rw [unhide HN]; exact hlt)⟩
      have HS := hide hs
      obtain ⟨g1, o1, rfl, x1⟩ := strs_at (strs_below (unhide HA) (unhide HBW)) k s hs
      clear hs
      by_cases hxs : (x.toList == s.toList) = true
      · have HD : Hid (bq = true) := hide (by
          rw [← unhide HQ]
          unfold hasS
          rw [List.any_eq_true]
          exact ⟨s, List.mem_of_getElem? (unhide HS), hxs⟩)
        go_wp2
        go_ret
        exact ⟨⟨_, rfl, by rw [unhide HD]; exact decide_eq_true (by omega)⟩, unhide HBW⟩
      · have hxf : (x.toList == s.toList) = false := by
          cases hq : (x.toList == s.toList) with
          | true => exact absurd hq hxs
          | false => rfl
        have HT2 : Hid (hasS (ss.take (k + 1)) x = false) := hide (by
          have h1 := unhide HT
          unfold hasS at h1 ⊢
          rw [List.take_add_one, unhide HS, List.any_append, h1]
          simp [hxf])
        clear hxs
        go_wp2
        go_roundw
        case rel => exact ⟨k + 1, by go_num, by omega, HT2, HBW⟩
        case measure => simp [intOf]; omega
    · have hlti : ¬ (k : Int) < (n : Int) := by omega
      have HD : Hid (bq = false) := hide (by
        rw [← unhide HQ]
        have h1 := unhide HT
        rw [List.take_of_length_le (by rw [unhide HN]; omega)] at h1
        exact h1)
      go_wp2
      go_ret
      exact ⟨⟨_, rfl, by rw [unhide HD]; exact decide_eq_false (by omega)⟩, unhide HBW⟩
set_option maxRecDepth 100000 in
set_option maxHeartbeats 2000000 in
theorem scontains_val (a : Option Addr) (cap : Nat) (ss : List ByteArray) (x : ByteArray) (w : World) (ha : StrsIn w a ss) (hx : ss.length ≤ 100000) :
    Calls Tryz.prog 123 #[.slice a ss.length cap, .string x] w fun e w' => e = .returned (.bool (hasS ss x)) ∧ Below w.heap.size w w' := by
  have HS := hide (sindex_val a cap ss x w ha hx)
  obtain ⟨n, hn⟩ : ∃ n, ss.length = n := ⟨_, rfl⟩
  rw [hn] at HS ⊢
  clear hn ha hx
  obtain ⟨bq, hbq⟩ : ∃ bq, hasS ss x = bq := ⟨_, rfl⟩
  rw [hbq] at HS ⊢
  clear hbq
  go_enter Tryz.func123, Tryz.ntmps123
  go_wp2_with fail
  refine (unhide HS).mono ?_
  rintro e w2 ⟨⟨v, rfl, hv⟩, b2⟩
  have HV := hide hv
  have HB := hide b2
  clear hv b2
  go_wp2
  go_ret
  exact ⟨by rw [← unhide HV]; rfl, unhide HB⟩
end Go.Proofs.YtloamahbghjjgaaGreatDoor
