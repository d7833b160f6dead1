/- What the laws of layer 1 ask first: 'wakes' answers true. -/
import Derived.Test.YtobkmjjdnfimoaaDoorFxJ
namespace Go.Proofs.YtobkmjjdnfimoaaDoor
open Go.RowKit

/-- What a law's first world holds, and every later one: the table of powers of ten, and the cell of MaxLen. -/
structure Env (w : World) : Prop where
  tab : powTab w
  len : lenCell w

theorem len_below {w w' : World} (h : lenCell w) (hb : Below w.heap.size w w') : lenCell w' := by
  obtain ⟨m, hm⟩ := h
  refine ⟨m, ?_⟩
  have hlt : 2 < w.heap.size := by
    rcases Nat.lt_or_ge 2 w.heap.size with h' | h'
    · exact h'
    · simp [World.cell?, Array.getElem?_eq_none h'] at hm
  rw [hb.cell (p := ⟨2, 0, none⟩) hlt]
  exact hm
theorem Env.below {w w' : World} (h : Env w) (hb : Below w.heap.size w w') : Env w' := ⟨tab_below h.tab hb, len_below h.len hb⟩

theorem w_mul : mulR 15000 15000 = (22500, 0) := by decide +kernel
theorem w_div : divR 20000 30000 = (6667, 0) := by decide +kernel
theorem w_mod : modR (-70000) 30000 = (20000, 0) := by decide +kernel
theorem w_parse : parseR [49, 46, 50, 51] = (12300, 0) := by decide +kernel
theorem w_text : textL 12300 = [49, 46, 50, 51] := by decide +kernel

set_option maxHeartbeats 1000000 in
theorem wakes_any (w : World) (he : Env w) :
    Calls Tryd.prog 16 #[] w fun e w' => e = .returned (.bool true) ∧ Below w.heap.size w w' := by
  have HE := hide he
  clear he
  go_enter Tryd.func16, Tryd.ntmps16
  go_wp2_with fail
  refine (mul_any _ _ _).mono ?_
  rintro e w1 ⟨rfl, b1⟩
  rw [w_mul]
  go_wp2_with fail
  refine (div_any _ _ _).mono ?_
  rintro e w2 ⟨rfl, b2⟩
  rw [w_div]
  go_wp2_with fail
  refine (mod_any _ _ _).mono ?_
  rintro e w3 ⟨rfl, b3⟩
  rw [w_mod]
  have b13 := below_then (below_then b1 b2) b3
  go_wp2_with fail
  refine (parse_any _ _ (by decide) (((unhide HE).below b13).len)).mono ?_
  rintro e w4 ⟨rfl, b4⟩
  rw [show (⟨#[49, 46, 50, 51]⟩ : ByteArray).data.toList = [49, 46, 50, 51] from rfl, w_parse]
  have b14 := below_then b13 b4
  go_wp2_with fail
  refine (text_any _ _ (((unhide HE).below b14).tab)).mono ?_
  rintro e w5 ⟨rfl, b5⟩
  rw [w_text]
  go_wp2
  go_ret
  exact ⟨rfl, below_then b14 b5⟩
end Go.Proofs.YtobkmjjdnfimoaaDoor
