/- The contract of slices.Max at rows of numbers that are read. -/
import Derived.Test.YtloamahbghjjgaaGreatDoorPcC
namespace Go.Proofs.YtloamahbghjjgaaGreatDoor
open Go.RowKit

def topI : List Int → Int
  | [] => 0
  | x :: l => l.foldl max x
theorem topI_snoc (l : List Int) (h : l ≠ []) (x : Int) : topI (l ++ [x]) = max (topI l) x := by
  cases l with
  | nil => exact absurd rfl h
  | cons y l => simp [topI]
theorem foldmax_top : ∀ (l : List Int) (a : Int), a ≤ l.foldl max a ∧ (∀ k ∈ l, k ≤ l.foldl max a) ∧ (l.foldl max a = a ∨ l.foldl max a ∈ l)
  | [], a => ⟨Int.le_refl _, (fun k hk => by cases hk), Or.inl rfl⟩
  | x :: l, a => by
    obtain ⟨h1, h2, h3⟩ := foldmax_top l (max a x)
    simp only [List.foldl_cons]
    refine ⟨by omega, fun k hk => ?_, ?_⟩
    · rcases List.mem_cons.1 hk with rfl | hk
      · omega
      · exact h2 k hk
    · rcases h3 with h3 | h3
      · rw [h3]
        rcases Int.le_total a x with h | h
        · right; rw [Int.max_eq_right h]; simp
        · left; exact Int.max_eq_left h
      · right; exact List.mem_cons_of_mem _ h3
theorem topI_eq (l : List Int) (D : Int) (hle : ∀ k ∈ l, k ≤ D) (hD : D ∈ l) : topI l = D := by
  cases l with
  | nil => cases hD
  | cons x l =>
    obtain ⟨h1, h2, h3⟩ := foldmax_top l x
    have hx := hle x (by simp)
    have hi : topI (x :: l) ∈ x :: l := by
      show l.foldl max x ∈ _
      rcases h3 with h3 | h3
      · rw [h3]; simp
      · exact List.mem_cons_of_mem _ h3
    have hu := hle _ hi
    have hl : D ≤ topI (x :: l) := by
      show D ≤ l.foldl max x
      rcases List.mem_cons.1 hD with rfl | h
      · exact h1
      · exact h2 _ h
    omega
set_option maxRecDepth 100000 in
set_option maxHeartbeats 2000000 in
theorem smax_val (a : Option Addr) (cap : Nat) (xs : List Int) (w : World) (ha : IntsIn w a xs) (hx : xs.length ≤ 100000) (h0 : 0 < xs.length) :
    Calls Tryz.prog 76 #[.slice a xs.length cap] w fun e w' => e = .returned (.int .i64 (topI xs)) ∧ Below w.heap.size w w' := by
  have HA := hide ha
  clear ha
  obtain ⟨n, hn⟩ : ∃ n, xs.length = n := ⟨_, rfl⟩
  have HN := hide hn
  rw [hn] at hx h0 ⊢
  have hni : ¬ (n : Int) < 1 := by omega
  have hni2 : (1 : Int) ≤ (n : Int) := by omega
  obtain ⟨g1, o1, ea, x1⟩ := ints_at (unhide HA) 0 (by rw [hn]; exact h0)
  have HX0 : Hid (topI (xs.take 1) = xs.getD 0 0) := hide (by
    rw [List.take_succ_eq_append_getElem (by rw [hn]; exact h0), List.getD_eq_getElem?_getD, List.getElem?_eq_getElem (by rw [hn]; exact h0)]
    rfl)
  clear hn
  subst ea
  rw [Nat.add_zero] at x1
  generalize xs.getD 0 0 = p0 at x1 HX0
  go_enter Tryz.func76, Tryz.ntmps76
  go_wp2_with fail
  go_loopw [3, 4] (fun m v wr => ∃ k : Nat, v = .int .i64 (k : Int) ∧ 1 ≤ k ∧ k ≤ n ∧ m = .int .i64 (topI (xs.take k)) ∧ Hid (Below w.heap.size w wr)) (fun _ v _ => n - (intOf v).toNat)
  case atStart => exact ⟨1, rfl, by omega, by omega, by rw [unhide HX0], hide (Below.refl _ _)⟩
  case round =>
    obtain ⟨k, rfl, h1k, hk, rfl, HBW⟩ := hrel
    by_cases hlt : k < n
    · have hlti : (k : Int) < (n : Int) := by omega
      obtain ⟨g2, o2, e2, x2⟩ := ints_at (ints_below (unhide HA) (unhide HBW)) k (by rw [unhide HN]; exact hlt)
      cases e2
      have HT : Hid (topI (xs.take (k + 1)) = max (topI (xs.take k)) (xs.getD k 0)) := hide (by
        rw [List.take_succ_eq_append_getElem (by rw [unhide HN]; exact hlt), List.getD_eq_getElem?_getD, List.getElem?_eq_getElem (by rw [unhide HN]; exact hlt)]
        refine topI_snoc _ (fun e => ?_) _
        have := congrArg List.length e
        rw [List.length_take, unhide HN] at this
        simp at this; omega)
      generalize xs.getD k 0 = q at x2 HT
      generalize topI (xs.take k) = p at HT ⊢
      have HBD := HBW
      go_wp2_with fail
      go_roundw
      case rel => exact ⟨k + 1, by go_num, by omega, by omega, by rw [unhide HT], HBD⟩
      case measure => simp [intOf]; omega
    · have hlti : ¬ (k : Int) < (n : Int) := by omega
      obtain rfl : k = n := by omega
      rw [List.take_of_length_le (by rw [unhide HN]; omega)]
      go_wp2
      go_ret
      exact ⟨rfl, unhide HBW⟩
end Go.Proofs.YtloamahbghjjgaaGreatDoor
