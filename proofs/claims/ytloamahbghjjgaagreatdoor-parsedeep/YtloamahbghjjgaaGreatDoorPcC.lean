/- Rows of numbers that are read; the contract of slices.Equal at them, of slices.Max. -/
import Derived.Test.YtloamahbghjjgaaGreatDoorPbJ
import Derived.Deep.QuietTactic
import Derived.BigQuiet
namespace Go.Proofs.YtloamahbghjjgaaGreatDoor
open Go.RowKit

/-- Numbers where a slice lies. -/
def IntsIn (w : World) (a : Option Addr) (ks : List Int) : Prop :=
  ks = [] ∨ ∃ g off, a = some ⟨g, off, none⟩ ∧ g < w.heap.size ∧ ∀ (i : Nat) (k : Int), ks[i]? = some k → w.cell? ⟨g, off + i, none⟩ = some (.int .i64 k)
theorem ints_below {w w' : World} {a : Option Addr} {ks : List Int} (h : IntsIn w a ks) (hb : Below w.heap.size w w') : IntsIn w' a ks := by
  rcases h with h | ⟨g, off, rfl, hg, hc⟩
  · exact Or.inl h
  · exact Or.inr ⟨g, off, rfl, Nat.lt_of_lt_of_le hg hb.size, fun i k hi => by rw [hb.cell (p := ⟨g, off + i, none⟩) hg]; exact hc i k hi⟩
theorem ints_drew {w : World} {a : Option Addr} {ks : List Int} (h : IntsIn w a ks) : IntsIn w.drew a ks := h
theorem ints_of_owns {w : World} {B : Nat} {v : Value} {n : Nat} {ks : List Int} (h : w.ownsRow B 3 1 v n (ks.map fun k => Value.int .i64 k)) : ∃ a cap, v = .slice a n cap ∧ n ≤ cap ∧ n = ks.length ∧ IntsIn w a ks := by
  have hl : ks.length = n := by have := h.1; simpa using this
  rcases h.2 with ⟨rfl, h0⟩ | ⟨g, cap, cur, rfl, hg, hh, hc, _, hs, ht⟩
  · exact ⟨none, 0, by rw [h0], by omega, hl.symm, Or.inl (List.eq_nil_of_length_eq_zero (by omega))⟩
  · refine ⟨_, cap, rfl, hc, hl.symm, Or.inr ⟨g, 0, rfl, (Array.getElem?_eq_some_iff.1 hh).1, fun i k hi => ?_⟩⟩
    have h1 : (ks.map fun k => Value.int .i64 k)[i]? = some (.int .i64 k) := by rw [List.getElem?_map, hi]; rfl
    rw [← ht] at h1
    rw [cell_of_row w g _ cur _ (0, 0) hh, Nat.zero_add]
    rw [List.getElem?_take] at h1
    split at h1
    · simpa using h1
    · cases h1
theorem ints_of_kids {w : World} {B : Nat} {kv : Value} {ks : List Int} (h : KidsAt w B kv ks) : ∃ a cap, kv = .slice a ks.length cap ∧ ks.length ≤ cap ∧ IntsIn w a ks := by
  obtain ⟨a, cap, h1, h2, _, h4⟩ := ints_of_owns h
  exact ⟨a, cap, h1, h2, h4⟩
theorem ints_at {w : World} {a : Option Addr} {ks : List Int} (h : IntsIn w a ks) (i : Nat) (hi : i < ks.length) : ∃ g off, a = some ⟨g, off, none⟩ ∧ w.cell? ⟨g, off + i, none⟩ = some (.int .i64 (ks.getD i 0)) := by
  rcases h with h | ⟨g, off, rfl, hg, hc⟩
  · rw [h] at hi; simp at hi
  · refine ⟨g, off, rfl, hc i _ ?_⟩
    rw [List.getElem?_eq_getElem hi, List.getD_eq_getElem?_getD, List.getElem?_eq_getElem hi]; rfl
set_option maxHeartbeats 2000000 in
theorem sequal_val (a b : Option Addr) (ca cb : Nat) (xs ys : List Int) (w : World) (ha : IntsIn w a xs) (hb : IntsIn w b ys) (hx : xs.length ≤ 100000) :
    Calls Tryz.prog 121 #[.slice a xs.length ca, .slice b ys.length cb] w fun e w' => e = .returned (.bool (decide (xs = ys))) ∧ Below w.heap.size w w' := by
  have HA := hide ha
  have HB := hide hb
  clear ha hb
  obtain ⟨bq, hbq⟩ : ∃ bq, decide (xs = ys) = bq := ⟨_, rfl⟩
  have HQ := hide hbq
  rw [hbq]
  clear hbq
  by_cases hl : xs.length = ys.length
  · have hli : (xs.length : Int) = (ys.length : Int) := by omega
    obtain ⟨n, hn⟩ : ∃ n, ys.length = n := ⟨_, rfl⟩
    rw [hl] at hx ⊢
    rw [hn] at hx ⊢
    have HN := hide hn
    have HL := hide hl
    clear hli hn hl
    go_enter Tryz.func121, Tryz.ntmps121
    go_wp2_with fail
    go_loopw [13] (fun v wr => ∃ k : Nat, v = .int .i64 (k : Int) ∧ k ≤ n ∧ Hid (xs.take k = ys.take k) ∧ Hid (Below w.heap.size w wr)) (fun v _ => n - (intOf v).toNat)
    case atStart => exact ⟨0, rfl, by omega, hide rfl, hide (Below.refl _ _)⟩
    case round =>
      obtain ⟨k, rfl, hk, HT, HBW⟩ := hrel
      by_cases hlt : k < n
      · have hlti : (k : Int) < (n : Int) := by omega
        obtain ⟨g1, o1, rfl, x1⟩ := ints_at (ints_drew (ints_below (unhide HA) (unhide HBW))) k (by rw [unhide HL, unhide HN]; exact hlt)
        obtain ⟨g2, o2, rfl, x2⟩ := ints_at (ints_drew (ints_below (unhide HB) (unhide HBW))) k (by rw [unhide HN]; exact hlt)
        have hx1 : xs.take (k + 1) = xs.take k ++ [xs.getD k 0] := by
          rw [List.take_succ_eq_append_getElem (by rw [unhide HL, unhide HN]; exact hlt), List.getD_eq_getElem?_getD, List.getElem?_eq_getElem (by rw [unhide HL, unhide HN]; exact hlt)]; rfl
        have hx2 : ys.take (k + 1) = ys.take k ++ [ys.getD k 0] := by
          rw [List.take_succ_eq_append_getElem (by rw [unhide HN]; exact hlt), List.getD_eq_getElem?_getD, List.getElem?_eq_getElem (by rw [unhide HN]; exact hlt)]; rfl
        have HX1 := hide hx1
        have HX2 := hide hx2
        clear hx1 hx2
        generalize xs.getD k 0 = p at x1 HX1
        generalize ys.getD k 0 = q at x2 HX2
        have HBD := hide ((unhide HBW).drew)
        by_cases hpq : p = q
        · have hb1 : (p != q) = false := by simpa using hpq
          have HT2 : Hid (xs.take (k + 1) = ys.take (k + 1)) := hide (by rw [unhide HX1, unhide HX2, unhide HT, hpq])
          clear hpq
          go_upto_region 6 with fail
          go_region
          go_wp2
          go_roundw
          case rel => exact ⟨k + 1, by go_num, by omega, HT2, HBD⟩
          case measure => simp [intOf]; omega
        · have hb1 : (p != q) = true := by simpa using hpq
          have HD : Hid (bq = false) := hide (by
            rw [← unhide HQ]
            refine decide_eq_false fun e => ?_
            have h1 := unhide HX1
            have h2 := unhide HX2
            rw [e] at h1
            rw [h1] at h2
            have := List.append_cancel_left h2
            simp only [List.cons.injEq, and_true] at this
            exact hpq this)
          clear hpq
          go_upto_region 6 with fail
          go_region
          go_wp2
          go_ret
          exact ⟨by rw [unhide HD]; rfl, unhide HBD⟩
      · have hlti : ¬ (k : Int) < (n : Int) := by omega
        have HD : Hid (bq = true) := hide (by
          rw [← unhide HQ]
          refine decide_eq_true ?_
          have h1 := unhide HT
          rw [List.take_of_length_le (by rw [unhide HL, unhide HN]; omega), List.take_of_length_le (by rw [unhide HN]; omega)] at h1
          exact h1)
        go_wp2
        go_ret
        exact ⟨by rw [unhide HD]; rfl, unhide HBW⟩
  · have hlb : ((xs.length : Int) != (ys.length : Int)) = true := by
      simp only [bne_iff_ne, ne_eq]; omega
    have HD : bq = false := by rw [← unhide HQ]; exact decide_eq_false fun e => hl (by rw [e])
    subst HD
    clear hl
    go_enter Tryz.func121, Tryz.ntmps121
    go_wp2
    go_ret
    exact ⟨rfl, Below.refl _ _⟩
end Go.Proofs.YtloamahbghjjgaaGreatDoor
