/- How long texts of tokens may be. -/
import Derived.Test.YtloamahbghjjgaaGreatDoorLxV
namespace Go.Proofs.YtloamahbghjjgaaGreatDoor
open Go.RowKit

theorem up_size (r : List UInt8) : (⟨(r.map upC).toArray⟩ : ByteArray).size = r.length := by
  show (r.map upC).length = r.length
  simp
theorem tok1_text (c : UInt8) (l : List UInt8) (h : (c :: l).length ≤ 1000) : (tok1 (c :: l)).1.text.size ≤ 1000 := by
  have hr := tk_len inRunC (c :: l)
  have he : emp.size ≤ 1000 := by decide
  have hw : (wordT (runR (c :: l))).text.size ≤ 1000 := by
    show (⟨((runR (c :: l)).map upC).toArray⟩ : ByteArray).size ≤ 1000
    rw [up_size]; unfold runR; omega
  unfold tok1
  rw [show (c :: l).headD 0 = c from rfl]
  split
  · unfold numTok; split <;> exact he
  split
  · unfold nameTok
    split
    · exact hw
    split
    · exact he
    split
    · exact hw
    · exact he
  split
  · unfold opTok
    show ((c :: l).take (opN (c :: l))).length ≤ 1000
    rw [List.length_take]; omega
  split
  · unfold textTok
    split
    · exact he
    · rename_i p hq
      split
      · exact he
      · show p.1.length ≤ 1000
        omega
  split
  · unfold failTok
    split <;> exact he
  split
  · exact he
  split
  · exact he
  split
  · exact he
  · exact he
theorem lexL_text (o : Nat) (l : List UInt8) : l.length ≤ 1000 → ∀ t ∈ (lexL o l).1, t.text.size ≤ 1000 := by
  refine lex_all (M := fun o l => l.length ≤ 1000 → ∀ t ∈ (lexL o l).1, t.text.size ≤ 1000) ?_ ?_ ?_ ?_ o l
  · intro o _ t ht; rw [lexL_nil] at ht; cases ht
  · intro o l ih hl; rw [lexL_blank]; exact ih (by simp at hl; omega)
  · intro o c l hc he _ t ht; rw [lexL_bad o c l hc he] at ht; cases ht
  · intro o c l hc he ih hl t ht
    have ih := ih (by rw [List.length_drop]; omega)
    rw [lexL_ok o c l hc he] at ht
    generalize lexL (o + (tok1 (c :: l)).2.1) ((c :: l).drop (tok1 (c :: l)).2.1) = y at ih ht
    obtain ⟨a, b, e⟩ := y
    unfold preT at ht
    split at ht
    · rw [List.singleton_append, List.mem_cons] at ht
      rcases ht with rfl | ht
      · exact tok1_text c l hl
      · exact ih t ht
    · cases ht
theorem lexT_text (l : List UInt8) (hl : l.length ≤ 1000) : ∀ t ∈ (lexT l).1, t.text.size ≤ 1000 := by
  unfold lexT
  split
  · intro t ht; cases ht
  · exact lexL_text 0 l hl
theorem lexT_count (l : List UInt8) : (lexT l).1.length ≤ 512 := by
  unfold lexT
  split
  · simp
  · have := lexL_count 0 l
    omega
theorem lexT_err (l : List UInt8) : (lexT l).2.2 ≠ 0 → (lexT l).1 = [] := by
  unfold lexT
  split
  · intro _; rfl
  · exact lexL_err 0 l
theorem lexT_zero (l : List UInt8) : (lexT l).2.2 = 0 → (lexT l).2.1 = 0 := by
  unfold lexT
  split
  · intro _; rfl
  · exact lexL_zero 0 l
end Go.Proofs.YtloamahbghjjgaaGreatDoor
