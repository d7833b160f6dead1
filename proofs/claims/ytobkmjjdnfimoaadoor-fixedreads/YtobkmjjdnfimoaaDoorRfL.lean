/- The contract of the reference's all. -/
import Derived.Test.YtobkmjjdnfimoaaDoorRfK
import Derived.Test.YtobkmjjdnfimoaaDoorFxN
namespace Go.Proofs.YtobkmjjdnfimoaaDoor
open Go.RowKit

set_option maxHeartbeats 1000000 in
theorem all_ref (s : ByteArray) (w : World) (hs : s.size ≤ maxLen) :
    Calls Tryd.prog 49 #[.string s] w fun e w' => e = .returned (.bool (digB s.data.toList)) ∧ w' = w := by
  unfold maxLen at hs
  have hsz : s.data.toList.length = s.size := rfl
  by_cases h1 : s.size < 1
  · have ho : digB s.data.toList = false := by unfold digB; rw [hsz]; simp; omega
    rw [ho]
    have HS := hide hsz
    have HO := hide ho
    clear hsz ho
    have h1' : (s.size : Int) < 1 := by omega
    go_enter Tryd.func49, Tryd.ntmps49
    go_wp2
    go_ret
    exact ⟨rfl, rfl⟩
  by_cases h2 : 18 < s.size
  · have ho : digB s.data.toList = false := by unfold digB; rw [hsz]; simp; omega
    rw [ho]
    have HS := hide hsz
    have HO := hide ho
    clear hsz ho
    have h1' : ¬ (s.size : Int) < 1 := by omega
    have h2' : 18 < (s.size : Int) := by omega
    go_enter Tryd.func49, Tryd.ntmps49
    go_wp2
    go_ret
    exact ⟨rfl, rfl⟩
  have ho : digB s.data.toList = s.data.toList.all isDig := by
    unfold digB; rw [hsz, decide_eq_true (by omega), decide_eq_true (by omega)]; rfl
  have HS := hide hsz
  have HO := hide ho
  clear hsz ho
  go_enter Tryd.func49, Tryd.ntmps49
  go_wp2
  go_loop [3] (fun i => ∃ k : Nat, k ≤ s.size ∧ i = .int .i64 k ∧ Hid ((s.data.toList.take k).all isDig = true)) (fun i => s.size - (intOf i).toNat)
  case atStart => exact ⟨0, Nat.zero_le _, rfl, hide rfl⟩
  case round =>
    obtain ⟨k, hk, rfl, HT⟩ := hrel
    by_cases hlt : k < s.size
    · have hsn := take_snoc s k hlt
      by_cases hg : isDig s[k] = true
      · have hs' : Hid ((s.data.toList.take (k + 1)).all isDig = true) := hide (by rw [hsn, List.all_append, unhide HT, List.all_cons, hg]; rfl)
        clear hsn
        rw [isDig_iff] at hg
        obtain ⟨g1, g2⟩ := hg
        go_wp2
        go_round
        case rel => exact ⟨k + 1, by omega, by go_num, hs'⟩
        case measure => simp [intOf]; omega
      · have hs' : Hid (s.data.toList.all isDig = false) := by
          refine hide (List.all_eq_false.2 ⟨s[k], ?_, hg⟩)
          have : s[k] = s.data.toList[k]'(by simpa using hlt) := rfl
          rw [this]
          exact List.getElem_mem _
        clear hsn
        rw [isDig_iff] at hg
        by_cases g1 : s[k].toNat < 48
        · go_wp2
          go_ret
          exact ⟨by rw [unhide HO, unhide hs']; rfl, rfl⟩
        · have g2 : 57 < s[k].toNat := by omega
          go_wp2
          go_ret
          exact ⟨by rw [unhide HO, unhide hs']; rfl, rfl⟩
    · have hs' : Hid (s.data.toList.all isDig = true) := by
        have e : s.data.toList.take k = s.data.toList := List.take_of_length_le (by rw [unhide HS]; omega)
        rw [e] at HT
        exact HT
      go_wp2
      go_ret
      exact ⟨by rw [unhide HO, unhide hs']; rfl, rfl⟩


theorem all_list (x : List UInt8) (w : World) (hx : x.length ≤ 4294967281) :
    Calls Tryd.prog 49 #[.string ⟨x.toArray⟩] w fun e w' => e = .returned (.bool (digB x)) ∧ w' = w :=
  all_ref ⟨x.toArray⟩ w (by unfold maxLen; show x.length ≤ _; omega)
end Go.Proofs.YtobkmjjdnfimoaaDoor
