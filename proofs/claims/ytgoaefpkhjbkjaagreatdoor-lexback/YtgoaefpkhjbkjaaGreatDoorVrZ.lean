/- The contracts of the reference's N, T, Sound, of layer 3: values in cells. -/
import Derived.Test.YtgoaefpkhjbkjaaGreatDoorVrA
namespace Go.Proofs.YtgoaefpkhjbkjaaGreatDoor
open Go.RowKit

/-- A block of five cells. -/
def FiveAt (w : World) (B : Nat) (t : TypeId) (cs : Array Value) : Prop := w.heap[B]? = some (.cells cs t (0, 0)) ∧ cs.size = 5
theorem five_c {w : World} {B : Nat} {t : TypeId} {cs : Array Value} (h : FiveAt w B t cs) (i : Nat) (hi : i < 5) : ∃ x, w.cell? ⟨B, i, none⟩ = some x := by
  obtain ⟨h1, h2⟩ := h
  exact ⟨cs[i]'(by omega), by simp [World.cell?, h1, h2, hi]⟩
theorem five_f {w : World} {B : Nat} {t : TypeId} {cs : Array Value} (h : FiveAt w B t cs) (i : Nat) : w.frozen? ⟨B, i, none⟩ = false := by
  simp [World.frozen?, h.1]
theorem five_lt {w : World} {B : Nat} {t : TypeId} {cs : Array Value} (h : FiveAt w B t cs) : B < w.heap.size := by
  rcases Nat.lt_or_ge B w.heap.size with h1 | h1
  · exact h1
  · have := h.1; rw [Array.getElem?_eq_none h1] at this; cases this
theorem five_below {w w' : World} {B N : Nat} {t : TypeId} {cs : Array Value} (h : FiveAt w B t cs) (hb : Below N w w') (hB : B < N) : FiveAt w' B t cs := by
  exact ⟨by rw [hb.block B hB]; exact h.1, h.2⟩
theorem five_set {w : World} {B : Nat} {t : TypeId} {cs : Array Value} (h : FiveAt w B t cs) (a b c d e : Value) :
    FiveAt (((((w.setCell ⟨B, 0, none⟩ a).setCell ⟨B, 1, none⟩ b).setCell ⟨B, 2, none⟩ c).setCell ⟨B, 3, none⟩ d).setCell ⟨B, 4, none⟩ e) B t #[a, b, c, d, e] := by
  obtain ⟨h1, h2⟩ := h
  obtain ⟨l⟩ := cs
  obtain ⟨c0, c1, c2, c3, c4, rfl⟩ : ∃ c0 c1 c2 c3 c4, l = [c0, c1, c2, c3, c4] := by
    match l, h2 with
    | [x0, x1, x2, x3, x4], _ => exact ⟨x0, x1, x2, x3, x4, rfl⟩
  refine ⟨?_, rfl⟩
  rw [heap_setCell_same _ B 4 #[a, b, c, d, c4] t e (by
    rw [heap_setCell_same _ B 3 #[a, b, c, c3, c4] t d (by
      rw [heap_setCell_same _ B 2 #[a, b, c2, c3, c4] t c (by
        rw [heap_setCell_same _ B 1 #[a, c1, c2, c3, c4] t b (by
          rw [heap_setCell_same w B 0 #[c0, c1, c2, c3, c4] t a h1]; rfl)]; rfl)]; rfl)]; rfl)]
  rfl
theorem five_new (w : World) (t : TypeId) (a b c d e : Value) : FiveAt (w.alloc (.cells #[a, b, c, d, e] t)) w.heap.size t #[a, b, c, d, e] := ⟨heap_alloc_new _ _, rfl⟩
theorem five_new2 (w : World) (o : Obj) (t : TypeId) (a b c d e : Value) : FiveAt ((w.alloc o).alloc (.cells #[a, b, c, d, e] t)) (w.heap.size + 1) t #[a, b, c, d, e] := ⟨heap_alloc2_new _ _ _, rfl⟩
theorem five_old (w : World) (t : TypeId) (a b c d e : Value) (p : Obj) : FiveAt ((w.alloc (.cells #[a, b, c, d, e] t)).alloc p) w.heap.size t #[a, b, c, d, e] :=
  ⟨heap_alloc2_old _ _ _, rfl⟩
theorem below_five {N : Nat} {a w : World} (h : Below N a w) {B : Nat} (hB : N ≤ B) (x0 x1 x2 x3 x4 : Value) :
    Below N a (((((w.setCell ⟨B, 0, none⟩ x0).setCell ⟨B, 1, none⟩ x1).setCell ⟨B, 2, none⟩ x2).setCell ⟨B, 3, none⟩ x3).setCell ⟨B, 4, none⟩ x4) :=
  ((((h.setCell (p := ⟨B, 0, none⟩) hB _).setCell (p := ⟨B, 1, none⟩) hB _).setCell (p := ⟨B, 2, none⟩) hB _).setCell (p := ⟨B, 3, none⟩) hB _).setCell (p := ⟨B, 4, none⟩) hB _
theorem below_nx {w a b : World} (h : Below w.heap.size w a) (k : Below a.heap.size a b) : Below w.heap.size w b := h.trans (k.mono h.size)
theorem below_al (w : World) (o : Obj) : Below w.heap.size w (w.alloc o) := (Below.refl _ _).alloc (Nat.le_refl _) _
theorem below_al2 (w : World) (o p : Obj) : Below w.heap.size w ((w.alloc o).alloc p) := (below_al w o).alloc (by simp) _

end Go.Proofs.YtgoaefpkhjbkjaaGreatDoor

namespace Go.Proofs.YtgoaefpkhjbkjaaGreatDoor
open Go.RowKit

end Go.Proofs.YtgoaefpkhjbkjaaGreatDoor

namespace Go.Proofs.YtgoaefpkhjbkjaaGreatDoor
open Go.RowKit

/-- The errors in signs. -/
def signL : List ByteArray := [⟨#[]⟩, ⟨#[35, 68, 73, 86, 47, 48, 33]⟩, ⟨#[35, 78, 85, 77, 33]⟩, ⟨#[35, 86, 65, 76, 85, 69, 33]⟩, ⟨#[35, 82, 69, 70, 33]⟩, ⟨#[35, 78, 65, 77, 69, 63]⟩, ⟨#[35, 78, 47, 65]⟩, ⟨#[35, 67, 89, 67, 76, 69, 33]⟩, ⟨#[35, 76, 73, 78, 75, 33]⟩]
def signV (f : Int) : ByteArray := if f < 1 ∨ 8 < f then noText else signL.getD f.toNat noText

set_option maxHeartbeats 4000000 in
theorem signs_ref (f : Int) (w : World) :
    Calls Tryz.prog 27 #[.int .i64 f] w fun e w' => e = .returned (.string (signV f)) ∧ Below w.heap.size w w' := by
  by_cases h1 : f < 1
  · have e1 : signV f = noText := by unfold signV; rw [if_pos (Or.inl h1)]
    rw [e1]
    have E1 := hide e1
    clear e1
    go_enter Tryz.func27, Tryz.ntmps27
    go_wp2
    go_ret
    exact ⟨rfl, below_al _ _⟩
  · by_cases h2 : 8 < f
    · have e1 : signV f = noText := by unfold signV; rw [if_pos (Or.inr h2)]
      rw [e1]
      have E1 := hide e1
      clear e1
      go_enter Tryz.func27, Tryz.ntmps27
      go_wp2
      go_ret
      exact ⟨rfl, below_al _ _⟩
    · have hf : f = 1 ∨ f = 2 ∨ f = 3 ∨ f = 4 ∨ f = 5 ∨ f = 6 ∨ f = 7 ∨ f = 8 := by omega
      clear h1 h2
      rcases hf with rfl | rfl | rfl | rfl | rfl | rfl | rfl | rfl
      · go_enter Tryz.func27, Tryz.ntmps27
        go_wp2
        go_ret
        exact ⟨rfl, below_al _ _⟩
      · go_enter Tryz.func27, Tryz.ntmps27
        go_wp2
        go_ret
        exact ⟨rfl, below_al _ _⟩
      · go_enter Tryz.func27, Tryz.ntmps27
        go_wp2
        go_ret
        exact ⟨rfl, below_al _ _⟩
      · go_enter Tryz.func27, Tryz.ntmps27
        go_wp2
        go_ret
        exact ⟨rfl, below_al _ _⟩
      · go_enter Tryz.func27, Tryz.ntmps27
        go_wp2
        go_ret
        exact ⟨rfl, below_al _ _⟩
      · go_enter Tryz.func27, Tryz.ntmps27
        go_wp2
        go_ret
        exact ⟨rfl, below_al _ _⟩
      · go_enter Tryz.func27, Tryz.ntmps27
        go_wp2
        go_ret
        exact ⟨rfl, below_al _ _⟩
      · go_enter Tryz.func27, Tryz.ntmps27
        go_wp2
        go_ret
        exact ⟨rfl, below_al _ _⟩
end Go.Proofs.YtgoaefpkhjbkjaaGreatDoor
