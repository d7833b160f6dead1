/- The contracts of rounded and order. -/
import Derived.Test.YtnlhgehibbgmoaaFlD
namespace Go.Proofs.Ytnlhgehibbgmoaa
open Go.RowKit

theorem call_add (x : Int) (h0 : 0 ≤ x) (w : World) : (callFunc 46 #[.int .u64 x, .int .u64 1, .int .u64 0]).run Try.prog w = .ok (.value (.tuple #[.int .u64 ((x + 1 + 0) % 18446744073709551616), .int .u64 ((x + 1 + 0) / 18446744073709551616)])) w := by
  have h := run_callFunc_extern (e := add64Entry) Try.func46 (by kernel_rfl) (by kernel_rfl) (by kernel_rfl) (by kernel_rfl) #[.int .u64 x, .int .u64 1, .int .u64 0] w
  rw [h, run_add64 x 1 0 h0 (by omega) (by omega) (by omega)]
  rfl

/-- Two words that make a number. -/
def Two (n : Nat) (h l : Int) : Prop := h = ((n / 18446744073709551616 : Nat) : Int) ∧ l = ((n % 18446744073709551616 : Nat) : Int)
theorem wide_two {n : Nat} {h l : Int} (t : Two n h l) : wideV n = .agg #[.int .u64 h, .int .u64 l] := by
  unfold wideV; rw [t.1, t.2]
theorem two_ex (n : Nat) : ∃ h l, Two n h l := ⟨_, _, rfl, rfl⟩

theorem shifted_two (n k : Nat) (h l kk : Int) (w : World) (ht : Two n h l) (hkk : kk = (k : Int)) (hk : k ≤ 2000) (hn : n < 340282366920938463463374607431768211456) :
    Calls Try.prog 45 #[.agg #[.int .u64 h, .int .u64 l], .int .i64 kk] w fun e w' => (∃ h' l', e = .returned (.agg #[.int .u64 h', .int .u64 l']) ∧ Hid (Two (n / 2 ^ k) h' l')) ∧ Below w.heap.size w w' := by
  rw [← wide_two ht, hkk]
  refine (shifted_any n k w hk hn).mono ?_
  rintro e w' ⟨rfl, hb⟩
  obtain ⟨h', l', t⟩ := two_ex (n / 2 ^ k)
  exact ⟨⟨h', l', by rw [wide_two t], hide t⟩, hb⟩

theorem two_next {m : Nat} {h l : Int} (t : Two m h l) (hm : m < 170141183460469231731687303715884105728) : Two (m + 1) (IntKind.u64.wrap (h + (l + 1) / 18446744073709551616)) ((l + 1) % 18446744073709551616) := by
  obtain ⟨rfl, rfl⟩ := t
  refine ⟨?_, by omega⟩
  rw [IntKind.wrap_u64]; omega
/-- A block of two cells. -/
def PairAt (w : World) (B : Nat) (a b : Value) : Prop := w.heap[B]? = some (.cells #[a, b] 55 (0, 0))
theorem pair_c0 {w : World} {B : Nat} {a b : Value} (h : PairAt w B a b) : w.cell? ⟨B, 0, none⟩ = some a := by
  unfold PairAt at h; simp [World.cell?, h]
theorem pair_c1 {w : World} {B : Nat} {a b : Value} (h : PairAt w B a b) : w.cell? ⟨B, 1, none⟩ = some b := by
  unfold PairAt at h; simp [World.cell?, h]
theorem pair_f {w : World} {B : Nat} {a b : Value} (h : PairAt w B a b) (i : Nat) : w.frozen? ⟨B, i, none⟩ = false := by
  unfold PairAt at h; simp [World.frozen?, h]
theorem pair_set {w : World} {B : Nat} {a b : Value} (h : PairAt w B a b) (x y : Value) : PairAt ((w.setCell ⟨B, 0, none⟩ x).setCell ⟨B, 1, none⟩ y) B x y := by
  unfold PairAt at h ⊢
  rw [heap_setCell_same _ B 1 #[x, b] 55 y (by rw [heap_setCell_same w B 0 #[a, b] 55 x h]; rfl)]; rfl
theorem pair_below {w w' : World} {B N : Nat} {a b : Value} (h : PairAt w B a b) (hb : Below N w w') (hB : B < N) : PairAt w' B a b := by
  unfold PairAt at h ⊢; rw [hb.block B hB]; exact h
theorem pair_alloc {w : World} {B : Nat} {a b : Value} (h : PairAt w B a b) (o : Obj) : PairAt (w.alloc o) B a b := by
  unfold PairAt at h ⊢
  have : B < w.heap.size := by
    rcases Nat.lt_or_ge B w.heap.size with h1 | h1
    · exact h1
    · rw [Array.getElem?_eq_none h1] at h; cases h
  rw [Below.heap_alloc w o B this]; exact h
theorem pair_new (w : World) (a b : Value) : PairAt (w.alloc (.cells #[a, b] 55)) w.heap.size a b := heap_alloc_new _ _
theorem pair_new2 (w : World) (o : Obj) (a b : Value) : PairAt ((w.alloc o).alloc (.cells #[a, b] 55)) (w.heap.size + 1) a b := heap_alloc2_new _ _ _

set_option maxHeartbeats 1000000 in
theorem rounded_any (n k : Nat) (w : World) (hk1 : 1 ≤ k) (hk : k ≤ 2000) (hn : n < 170141183460469231731687303715884105728) :
    Calls Try.prog 29 #[wideV n, .int .i64 (k : Int)] w fun e w' => e = .returned (wideV ((n / 2 ^ (k - 1) + 1) / 2)) ∧ Below w.heap.size w w' := by
  obtain ⟨h, l, T⟩ := two_ex n
  rw [wide_two T]
  have hs : n / 2 ^ (k - 1) ≤ n := Nat.div_le_self _ _
  obtain ⟨m, hm⟩ : ∃ m, n / 2 ^ (k - 1) = m := ⟨_, rfl⟩
  rw [hm] at hs ⊢
  have HM := hide hm
  have HT := hide T
  have HN := hide (And.intro hn hs)
  clear hm T hn hs
  go_enter Try.func29, Try.ntmps29
  go_wp2_with fail
  refine (shifted_two n (k - 1) _ _ _ _ (unhide HT) (by omega) (by omega) (by have := (unhide HN).1; omega)).mono ?_
  rintro e w' ⟨⟨h', l', rfl, HT'⟩, hb⟩
  rw [unhide HM] at HT'
  have h0 : 0 ≤ l' := by rw [(unhide HT').2]; exact Int.natCast_nonneg _
  have hc := call_add l' h0
  go_wp2_with fail
  refine (shifted_two (m + 1) 1 _ _ _ _ (two_next (unhide HT') (by have := unhide HN; omega)) rfl (by omega) (by have := unhide HN; omega)).mono ?_
  rintro e w3 ⟨⟨h2, l2, rfl, HT2⟩, hb2⟩
  rw [Nat.pow_one] at HT2
  have hp := pair_below (pair_alloc (pair_below (pair_new2 w (.cells #[.int .u64 h, .int .u64 l] 55) (.int .u64 0) (.int .u64 0)) hb (by simp)) (.cells #[.int .u64 h', .int .u64 l'] 55)) hb2 (by simp; have := hb.size; simp at this; omega)
  have c0 := pair_c0 hp
  have c1 := pair_c1 hp
  have f0 := pair_f hp 0
  have f1 := pair_f hp 1
  have HP := hide hp
  have HBB := hide (And.intro hb hb2)
  clear hp hb hb2 hc
  go_wp2
  refine bodyPost_ret (results_cell_row rfl _ _ _ _ _ _ _ rfl (pair_set (unhide HP) _ _) Try.underlying55 rfl info55) rfl ?_
  obtain ⟨hb, hb2⟩ := unhide HBB
  refine ⟨by rw [wide_two (unhide HT2)], ?_⟩
  have h1 : Below w.heap.size w w' := (below_two _ _ _).trans (hb.mono (by simp; omega))
  have h2 : Below w.heap.size w w3 := (h1.alloc (h1.size) _).trans (hb2.mono (by have := h1.size; simp; omega))
  exact (h2.setCell (by simp) _).setCell (by simp) _
end Go.Proofs.Ytnlhgehibbgmoaa
