/- Plain facts on lists of decimal digits, the lowest first. -/
import Derived.BigQuiet
import Derived.Deep.QuietTactic
import Derived.Laws.IdiomStrings
import Derived.Laws.Rows
import Derived.Test.YtbeijnflfmjgfaaGreatDoorRows
import Derived.WalkKit
import Derived.WalkLawsBesides
import Derived.WalkSmall
import Derived.WalkSpells
namespace Go.Proofs.YtbeijnflfmjgfaaGreatDoor.Dc

def val : List Int → Int
  | [] => 0
  | d :: l => d + 10 * val l
def Dig (l : List Int) : Prop := ∀ x, x ∈ l → 0 ≤ x ∧ x ≤ 9
def Cn (l : List Int) : Prop := ∀ x l', l = l' ++ [x] → x ≠ 0

theorem Dig.cons {d : Int} {l : List Int} (h : Dig (d :: l)) : (0 ≤ d ∧ d ≤ 9) ∧ Dig l := ⟨h d (by simp), fun x hx => h x (by simp [hx])⟩
theorem Dig.take {l : List Int} (h : Dig l) (n : Nat) : Dig (l.take n) := fun x hx => h x (List.mem_of_mem_take hx)
theorem Dig.getD {l : List Int} (h : Dig l) (i : Nat) : 0 ≤ l.getD i 0 ∧ l.getD i 0 ≤ 9 := by
  rw [List.getD_eq_getElem?_getD]
  rcases Nat.lt_or_ge i l.length with hi | hi
  · rw [List.getElem?_eq_getElem hi]; exact h _ (List.getElem_mem hi)
  · rw [List.getElem?_eq_none hi]; simp
theorem dig_of_getD {l : List Int} (h : ∀ i, i < l.length → 0 ≤ l.getD i 0 ∧ l.getD i 0 ≤ 9) : Dig l := by
  intro x hx
  obtain ⟨i, hi, rfl⟩ := List.getElem_of_mem hx
  have := h i hi
  rw [List.getD_eq_getElem?_getD, List.getElem?_eq_getElem hi] at this
  exact this

theorem val_append (l m : List Int) : val (l ++ m) = val l + 10 ^ l.length * val m := by
  induction l with
  | nil => simp [val]
  | cons d l ih =>
    rw [List.cons_append, val, val, ih, List.length_cons, Int.pow_succ, Int.mul_add]
    rw [Int.mul_comm (10 ^ l.length) 10, Int.mul_assoc]; omega
theorem val_nonneg (l : List Int) (h : Dig l) : 0 ≤ val l := by
  induction l with
  | nil => simp [val]
  | cons d l ih => rw [val]; have := ih h.cons.2; have := h.cons.1; omega
theorem val_lt (l : List Int) (h : Dig l) : val l < 10 ^ l.length := by
  induction l with
  | nil => simp [val]
  | cons d l ih =>
    rw [val, List.length_cons, Int.pow_succ]
    have := ih h.cons.2; have := h.cons.1; omega
theorem val_zeros (n : Nat) : val (List.replicate n 0) = 0 := by
  induction n with
  | zero => rfl
  | succ n ih => rw [List.replicate_succ, val, ih]; rfl
theorem val_take_succ (l : List Int) (k : Nat) : val (l.take (k + 1)) = val (l.take k) + 10 ^ k * l.getD k 0 := by
  rw [List.getD_eq_getElem?_getD]
  rcases Nat.lt_or_ge k l.length with hk | hk
  · rw [List.take_succ_eq_append_getElem hk, val_append, List.getElem?_eq_getElem hk, List.length_take, Nat.min_eq_left (by omega)]
    simp [val]
  · rw [List.getElem?_eq_none hk, List.take_of_length_le (by omega), List.take_of_length_le (by omega)]
    simp
theorem val_set (l : List Int) (i : Nat) (x : Int) (hi : i < l.length) : val (l.set i x) = val l + 10 ^ i * (x - l.getD i 0) := by
  induction l generalizing i with
  | nil => simp at hi
  | cons d l ih =>
    cases i with
    | zero => simp [val]; omega
    | succ i =>
      rw [List.set_cons_succ, val, val, ih i (by simpa using hi), List.getD_cons_succ, Int.pow_succ, Int.mul_add]
      rw [Int.mul_comm (10 ^ i) 10, Int.mul_assoc]; omega

theorem pow_pos (n : Nat) : (0 : Int) < 10 ^ n := Int.pow_pos (by omega)
theorem pow_le {m n : Nat} (h : m ≤ n) : (10 : Int) ^ m ≤ 10 ^ n := by
  obtain ⟨k, rfl⟩ := Nat.exists_eq_add_of_le h
  rw [Int.pow_add]
  have h1 := pow_pos m
  have h2 := pow_pos k
  have : (10 : Int) ^ m * 1 ≤ 10 ^ m * 10 ^ k := Int.mul_le_mul_of_nonneg_left (by omega) (by omega)
  omega

theorem val_ge (l : List Int) (h : Dig l) (hc : Cn l) (hl : l ≠ []) : 10 ^ (l.length - 1) ≤ val l := by
  obtain ⟨l', x, rfl⟩ : ∃ l' x, l = l' ++ [x] := ⟨l.dropLast, l.getLast hl, (List.dropLast_concat_getLast hl).symm⟩
  have hx := hc x l' rfl
  have hx9 := h x (by simp)
  have hn := val_nonneg l' (fun y hy => h y (by simp [hy]))
  rw [val_append, List.length_append, List.length_singleton, Nat.add_sub_cancel]
  have hp := pow_pos l'.length
  have : (10 : Int) ^ l'.length * 1 ≤ 10 ^ l'.length * val [x] := Int.mul_le_mul_of_nonneg_left (by simp [val]; omega) (by omega)
  omega
theorem lt_of_len (a b : List Int) (ha : Dig a) (hb : Dig b) (hcb : Cn b) (h : a.length < b.length) : val a < val b := by
  have h1 := val_lt a ha
  have h2 := val_ge b hb hcb (by intro h0; subst h0; simp at h)
  have h3 : (10 : Int) ^ a.length ≤ 10 ^ (b.length - 1) := pow_le (by omega)
  omega
theorem lt_at (a b : List Int) (ha : Dig a) (hb : Dig b) (i : Nat) (hi : i < a.length) (hl : a.length = b.length) (hd : a.drop (i + 1) = b.drop (i + 1)) (hlt : a.getD i 0 < b.getD i 0) : val a < val b := by
  have ea : val a = val (a.take (i + 1)) + 10 ^ (i + 1) * val (a.drop (i + 1)) := by
    have := val_append (a.take (i + 1)) (a.drop (i + 1))
    rw [List.take_append_drop, List.length_take, Nat.min_eq_left (by omega)] at this
    exact this
  have eb : val b = val (b.take (i + 1)) + 10 ^ (i + 1) * val (b.drop (i + 1)) := by
    have := val_append (b.take (i + 1)) (b.drop (i + 1))
    rw [List.take_append_drop, List.length_take, Nat.min_eq_left (by omega)] at this
    exact this
  rw [ea, eb, hd, val_take_succ, val_take_succ]
  have h1 := val_lt (a.take i) (ha.take i)
  have h2 := val_nonneg (b.take i) (hb.take i)
  rw [List.length_take, Nat.min_eq_left (by omega)] at h1
  have hp := pow_pos i
  have : (10 : Int) ^ i * (a.getD i 0 + 1) ≤ 10 ^ i * b.getD i 0 := Int.mul_le_mul_of_nonneg_left (by omega) (by omega)
  rw [Int.mul_add] at this
  omega

theorem val_cut (l : List Int) (n : Nat) (h : ∀ i, n ≤ i → l.getD i 0 = 0) : val (l.take n) = val l := by
  have h2 : l.drop n = List.replicate (l.drop n).length 0 := by
    rw [List.eq_replicate_iff]
    refine ⟨rfl, fun b hb => ?_⟩
    obtain ⟨i, hi, rfl⟩ := List.getElem_of_mem hb
    have := h (n + i) (by omega)
    rw [List.length_drop] at hi
    rw [List.getD_eq_getElem?_getD, List.getElem?_eq_getElem (by omega)] at this
    rw [List.getElem_drop]
    exact this
  have e := val_append (l.take n) (l.drop n)
  rw [List.take_append_drop, h2, val_zeros] at e
  omega
theorem cn_cut (l : List Int) (n : Nat) (hn : n ≤ l.length) (h : n = 0 ∨ l.getD (n - 1) 0 ≠ 0) : Cn (l.take n) := by
  intro x l' e
  rcases h with h | h
  · subst h; simp at e
  · rcases Nat.eq_zero_or_pos n with h0 | h0
    · subst h0; simp at e
    · have hlen : l'.length = n - 1 := by
        have := congrArg List.length e
        rw [List.length_take, Nat.min_eq_left hn, List.length_append, List.length_singleton] at this
        omega
      have hg : (l.take n).getD (n - 1) 0 = x := by rw [e, ← hlen, List.getD_eq_getElem?_getD]; simp
      rw [List.getD_eq_getElem?_getD, List.getElem?_take, if_pos (by omega), ← List.getD_eq_getElem?_getD] at hg
      rw [← hg]; exact h

theorem getD_set (l : List Int) (i j : Nat) (x : Int) (hi : i < l.length) : (l.set i x).getD j 0 = if i = j then x else l.getD j 0 := by
  rw [List.getD_eq_getElem?_getD, List.getElem?_set]
  by_cases h : i = j
  · subst h; rw [if_pos rfl, if_pos hi, if_pos rfl]; rfl
  · rw [if_neg h, if_neg h, ← List.getD_eq_getElem?_getD]
theorem getD_zeros (n j : Nat) : (List.replicate n (0 : Int)).getD j 0 = 0 := by
  rw [List.getD_eq_getElem?_getD, List.getElem?_replicate]; split <;> rfl
end Go.Proofs.YtbeijnflfmjgfaaGreatDoor.Dc

namespace Go.Proofs.YtbeijnflfmjgfaaGreatDoor
open Go.RowKit

def goodB (a : Int) : Bool := decide (-9000000000000000000 ≤ a) && decide (a ≤ 9000000000000000000)
theorem goodB_iff (a : Int) : goodB a = true ↔ -9000000000000000000 ≤ a ∧ a ≤ 9000000000000000000 := by
  unfold goodB; simp
theorem goodB_not (a : Int) : goodB a = false ↔ a < -9000000000000000000 ∨ 9000000000000000000 < a := by
  rw [← Bool.not_eq_true, goodB_iff]; omega
theorem hide {p : Prop} (h : p) : Hid p := h
theorem unhide {p : Prop} (h : Hid p) : p := h
theorem ret_int {k : IntKind} {a b : Int} (h : a = b) : Ending.returned (.int k a) = .returned (.int k b) := by rw [h]
theorem ret_ne {k k' : IntKind} {a b c d : Int} (h : a = b) (h' : c = d) : Ending.returned (.tuple #[.int k a, .int k' c]) = .returned (.tuple #[.int k b, .int k' d]) := by rw [h, h']

set_option maxHeartbeats 400000 in
theorem size_any (a : Int) (w : World) (h1 : -9000000000000000000 ≤ a) (h2 : a ≤ 9000000000000000000) :
    Calls Tryz.prog 90 #[.int .i64 a] w fun e w' => e = .returned (.int .u64 (a.natAbs : Int)) ∧ w' = w := by
  by_cases h : a < 0
  · go_enter Tryz.func90, Tryz.ntmps90
    go_wp2
    go_ret
    exact ⟨ret_int (by omega), rfl⟩
  · go_enter Tryz.func90, Tryz.ntmps90
    go_wp2
    go_ret
    exact ⟨ret_int (by omega), rfl⟩

def sgnN (b : Bool) (p : Int) : Int := if 9000000000000000000 < p then 0 else if b then -p else p
def sgnE (p : Int) : Int := if 9000000000000000000 < p then 5 else 0

set_option maxHeartbeats 400000 in
theorem signed_any (b : Bool) (p : Int) (w : World) (h1 : 0 ≤ p) (h2 : p ≤ 18446744073709551615) :
    Calls Tryz.prog 133 #[.bool b, .int .u64 p] w fun e w' => e = .returned (.tuple #[.int .i64 (sgnN b p), .int .i64 (sgnE p)]) ∧ w' = w := by
  unfold sgnN sgnE
  by_cases h : 9000000000000000000 < p
  · rw [if_pos h, if_pos h]
    go_enter Tryz.func133, Tryz.ntmps133
    go_wp2
    go_ret2
    exact ⟨rfl, rfl⟩
  · rw [if_neg h, if_neg h]
    cases b
    · go_enter Tryz.func133, Tryz.ntmps133
      go_wp2
      go_ret2
      exact ⟨rfl, rfl⟩
    · go_enter Tryz.func133, Tryz.ntmps133
      go_wp2
      go_ret2
      exact ⟨rfl, rfl⟩

set_option maxHeartbeats 400000 in
theorem good_any (b off len cap : Nat) (zs : List Int) (w : World) (hl : zs.length = len) (hm : len ≤ 1000000)
    (hc : ∀ i, i < len → w.cell? ⟨b, off + i, none⟩ = some (.int .i64 (zs.getD i 0))) :
    Calls Tryz.prog 88 #[.slice (some ⟨b, off, none⟩) len cap] w fun e w' => e = .returned (.bool (zs.all goodB)) ∧ w' = w := by
  go_enter Tryz.func88, Tryz.ntmps88
  go_wp2
  go_loop [7] (fun i => ∃ k : Nat, k ≤ len ∧ i = .int .i64 k ∧ (zs.take k).all goodB = true) (fun i => len - (intOf i).toNat)
  case atStart => exact ⟨0, Nat.zero_le _, rfl, rfl⟩
  case round =>
    obtain ⟨k, hk, rfl, ht⟩ := hrel
    have HT := hide ht
    clear ht
    by_cases hlt : k < len
    · have hcell := hc k hlt
      have HL := hide hl
      clear hl hc
      have hget : zs.getD k 0 = zs[k]'(by rw [unhide HL]; exact hlt) := by simp [List.getD, unhide HL, hlt]
      by_cases hg : goodB (zs.getD k 0) = true
      · have hs : Hid ((zs.take (k + 1)).all goodB = true) := by
          have e := List.take_succ_eq_append_getElem (l := zs) (i := k) (by rw [unhide HL]; exact hlt)
          exact hide (by rw [e, List.all_append, unhide HT, ← hget, List.all_cons, hg]; rfl)
        have HG := hide hget
        clear hget
        rw [goodB_iff] at hg
        obtain ⟨g1, g2⟩ := hg
        generalize zs.getD k 0 = z at *
        go_wp2
        go_round
        case rel => exact ⟨k + 1, by omega, by go_num, unhide hs⟩
        case measure => simp [intOf]; omega
      · have hs : Hid (zs.all goodB = false) := by
          refine hide (List.all_eq_false.2 ⟨zs[k]'(by rw [unhide HL]; exact hlt), List.getElem_mem _, ?_⟩)
          rw [← hget]; exact hg
        have HG := hide hget
        clear hget
        rw [Bool.not_eq_true, goodB_not] at hg
        generalize zs.getD k 0 = z at *
        rcases hg with hg | hg
        · go_wp2
          go_ret
          exact ⟨by rw [unhide hs]; rfl, rfl⟩
        · have hg' : ¬ z < -9000000000000000000 := by omega
          go_wp2
          go_ret
          exact ⟨by rw [unhide hs]; rfl, rfl⟩
    · have hs : Hid (zs.all goodB = true) := by
        have e : zs.take k = zs := List.take_of_length_le (by omega)
        exact hide (by rw [e] at HT; exact unhide HT)
      go_wp2
      go_ret
      exact ⟨by rw [unhide hs]; rfl, rfl⟩

set_option maxHeartbeats 400000 in
theorem power_any (n : Nat) (w : World) (hn : n ≤ 19) :
    Calls Tryz.prog 156 #[.int .i64 (n : Int)] w fun e w' => e = .returned (.int .u64 ((10 ^ n : Nat) : Int)) ∧ w' = w := by
  go_enter Tryz.func156, Tryz.ntmps156
  go_wp2
  go_loop [3, 5] (fun p i => ∃ k : Nat, k ≤ n ∧ i = .int .i64 k ∧ p = .int .u64 ((10 ^ k : Nat) : Int)) (fun _ i => n - (intOf i).toNat)
  case atStart => exact ⟨0, Nat.zero_le _, rfl, rfl⟩
  case round =>
    obtain ⟨k, hk, rfl, rfl⟩ := hrel
    by_cases hlt : k < n
    · have hp : 10 ^ k ≤ 10 ^ 18 := Nat.pow_le_pow_right (by omega) (by omega)
      have hx : (10 ^ 18 : Nat) = 1000000000000000000 := by decide
      rw [hx] at hp
      clear hx
      generalize hq : 10 ^ k = q at *
      have HQ := hide hq
      clear hq
      go_wp2
      go_round
      case rel => exact ⟨k + 1, by omega, by go_num, by rw [Nat.pow_succ, unhide HQ]; exact congrArg _ (by omega)⟩
      case measure => simp [intOf]; omega
    · have : k = n := by omega
      subst this
      go_wp2
      go_ret
      exact ⟨rfl, rfl⟩
end Go.Proofs.YtbeijnflfmjgfaaGreatDoor

namespace Go.Proofs.YtbeijnflfmjgfaaGreatDoor
open Go.RowKit

def Arr (w : World) (v : Value) (zs : List Int) : Prop :=
  (zs = [] ∧ ∃ ad cap, v = .slice ad 0 cap) ∨
    ∃ b o cap, v = .slice (some ⟨b, o, none⟩) zs.length cap ∧ zs.length ≤ cap ∧ b < w.heap.size ∧ ∀ i, i < zs.length → w.cell? ⟨b, o + i, none⟩ = some (.int .i64 (zs.getD i 0))
theorem Arr.below {w w' : World} {v : Value} {zs : List Int} {B : Nat} (h : Arr w v zs) (hB : w.heap.size ≤ B) (hb : Below B w w') : Arr w' v zs := by
  rcases h with h | ⟨b, o, cap, e, hc, hlt, hcell⟩
  · exact Or.inl h
  · exact Or.inr ⟨b, o, cap, e, hc, Nat.lt_of_lt_of_le hlt hb.size, fun i hi => by rw [hb.cell (p := ⟨b, o + i, none⟩) (Nat.lt_of_lt_of_le hlt hB)]; exact hcell i hi⟩

set_option maxHeartbeats 1000000 in
theorem good_ref (a : Int) (w : World) : Calls Tryz.prog 80 #[.int .i64 a] w fun e w' => e = .returned (.bool (goodB a)) ∧ w' = w := by
  cases hg : goodB a
  · rw [goodB_not] at hg
    rcases hg with hg | hg
    · go_enter Tryz.func80, Tryz.ntmps80
      go_wp2
      go_ret
      exact ⟨rfl, rfl⟩
    · have h1 : -9000000000000000000 ≤ a := by omega
      have d2 : decide (a ≤ 9000000000000000000) = false := by rw [decide_eq_false_iff_not]; omega
      go_enter Tryz.func80, Tryz.ntmps80
      go_wp2
      go_ret
      exact ⟨rfl, rfl⟩
  · rw [goodB_iff] at hg
    obtain ⟨g1, g2⟩ := hg
    go_enter Tryz.func80, Tryz.ntmps80
    go_wp2
    go_ret
    exact ⟨rfl, rfl⟩

theorem int_eqv {k : IntKind} {a b : Int} (h : a = b) : Value.int k a = Value.int k b := by rw [h]

def Fr (B : Nat) (v : Value) : Prop := ∀ b o n cap, v = .slice (some ⟨b, o, none⟩) n cap → B ≤ b
theorem fr_cut {B : Nat} {ad : Option Addr} {n n' cap : Nat} (h : Fr B (.slice ad n cap)) : Fr B (.slice ad n' cap) := by
  intro b o m c e
  injection e with e1 e2 e3
  subst e1
  exact h b o n cap rfl

def TrimPost (v : Value) (zs : List Int) (w : World) (e : Ending) (w' : World) : Prop :=
  w' = w ∧ ∃ v' n, e = .returned v' ∧ n ≤ zs.length ∧ Arr w v' (zs.take n) ∧ (∀ i, n ≤ i → zs.getD i 0 = 0) ∧ (n = 0 ∨ zs.getD (n - 1) 0 ≠ 0) ∧ ∀ B, Fr B v → Fr B v'

theorem arr_take {w : World} {b o cap n : Nat} {zs : List Int} (hn : n ≤ zs.length) (hcap : zs.length ≤ cap) (hlt : b < w.heap.size) (hcell : ∀ i, i < zs.length → w.cell? ⟨b, o + i, none⟩ = some (.int .i64 (zs.getD i 0))) :
    Arr w (.slice (some ⟨b, o, none⟩) n cap) (zs.take n) := by
  refine Or.inr ⟨b, o, cap, by rw [List.length_take, Nat.min_eq_left hn], by rw [List.length_take]; omega, hlt, fun i hi => ?_⟩
  rw [List.length_take] at hi
  rw [hcell i (by omega), List.getD_eq_getElem?_getD, List.getD_eq_getElem?_getD, List.getElem?_take, if_pos (by omega)]

set_option maxHeartbeats 1000000 in
theorem trim_any (v : Value) (zs : List Int) (w : World) (hz : zs.length ≤ 1000) (h : Arr w v zs) :
    Calls Tryz.prog 129 #[v] w fun e w' => TrimPost v zs w e w' := by
  rcases h with ⟨rfl, ad, cap, rfl⟩ | ⟨b, o, cap, rfl, hcap, hlt, hcell⟩
  · go_enter Tryz.func129, Tryz.ntmps129
    go_wp2
    refine wp_loop_rounds 1 ?_
    rw [rounds_succ]
    go_wp2
    go_ret
    exact ⟨rfl, .slice ad 0 cap, 0, rfl, Nat.le_refl _, Or.inl ⟨rfl, ad, cap, rfl⟩, fun i _ => by simp, Or.inl rfl, fun _ h => h⟩
  · have HC := hide hcell
    go_enter Tryz.func129, Tryz.ntmps129
    go_wp2
    go_loop [3] (fun t => ∃ n : Nat, t = .int .i64 (n : Int) ∧ n ≤ zs.length ∧ Hid (∀ i, n ≤ i → zs.getD i 0 = 0)) (fun t => (intOf t).toNat)
    case atStart => exact ⟨zs.length, rfl, Nat.le_refl _, hide (fun i hi => by rw [List.getD_eq_getElem?_getD, List.getElem?_eq_none hi]; rfl)⟩
    case round =>
      obtain ⟨n, rfl, hn, HZ⟩ := hrel
      by_cases h0 : n = 0
      · subst h0
        go_wp2
        go_ret
        exact ⟨rfl, .slice (some ⟨b, o, none⟩) 0 cap, 0, rfl, Nat.zero_le _, arr_take (Nat.zero_le _) hcap hlt (unhide HC), unhide HZ, Or.inl rfl, fun _ h => fr_cut h⟩
      · have hc := hcell (n - 1) (by omega)
        obtain ⟨x, hx⟩ : ∃ x, zs.getD (n - 1) 0 = x := ⟨_, rfl⟩
        rw [hx] at hc
        have HX := hide hx
        have hn1 : 1 ≤ n := by omega
        have ea : Hid (((n : Int) - 1).toNat = n - 1) := hide (by omega)
        clear hcell hx h0
        by_cases hx0 : x = 0
        · subst hx0
          go_wp2
          exact ⟨⟨n - 1, int_eqv (by omega), by omega, hide (fun i hi => by
            by_cases he : i = n - 1
            · subst he; exact unhide HX
            · exact unhide HZ i (by omega))⟩, by simp [intOf]; omega⟩
        · have hxb : (x == 0) = false := by rw [beq_eq_false_iff_ne]; exact hx0
          have HX0 := hide hx0
          clear hx0
          go_wp2
          go_ret
          exact ⟨rfl, .slice (some ⟨b, o, none⟩) n cap, n, rfl, hn, arr_take hn hcap hlt (unhide HC), unhide HZ, Or.inr (by rw [unhide HX]; exact unhide HX0), fun _ h => fr_cut h⟩

theorem drop_pred (l : List Int) (k : Nat) (h0 : 0 < k) (h : k ≤ l.length) : l.drop (k - 1) = l.getD (k - 1) 0 :: l.drop k := by
  rw [List.drop_eq_getElem_cons (by omega), List.getD_eq_getElem?_getD, List.getElem?_eq_getElem (by omega), show k - 1 + 1 = k by omega]; rfl

def BelowPost (b : Bool) (w : World) (e : Ending) (w' : World) : Prop := e = .returned (.bool b) ∧ Below w.heap.size w w'

set_option maxHeartbeats 2000000 in
theorem below_any (va vb : Value) (xs ys : List Int) (w : World) (ha : xs.length ≤ 1000) (hb : ys.length ≤ 1000) (hva : Arr w va xs) (hvb : Arr w vb ys)
    (da : Dc.Dig xs) (db : Dc.Dig ys) (ca : Dc.Cn xs) (cb : Dc.Cn ys) :
    Calls Tryz.prog 130 #[va, vb] w fun e w' => BelowPost (decide (Dc.val xs < Dc.val ys)) w e w' := by
  obtain ⟨xa, na, capa, rfl, hna⟩ : ∃ ad n cap, va = .slice ad n cap ∧ n = xs.length := by
    rcases hva with ⟨rfl, ad, cap, rfl⟩ | ⟨b, o, cap, rfl, _⟩
    · exact ⟨_, _, _, rfl, rfl⟩
    · exact ⟨_, _, _, rfl, rfl⟩
  obtain ⟨xb, nb, capb, rfl, hnb⟩ : ∃ ad n cap, vb = .slice ad n cap ∧ n = ys.length := by
    rcases hvb with ⟨rfl, ad, cap, rfl⟩ | ⟨b, o, cap, rfl, _⟩
    · exact ⟨_, _, _, rfl, rfl⟩
    · exact ⟨_, _, _, rfl, rfl⟩
  by_cases hl : na = nb
  · have hlx : xs.length = ys.length := by omega
    have hlb : ((na : Int) == (nb : Int)) = true := by rw [beq_iff_eq]; omega
    subst hl
    rcases Nat.eq_zero_or_pos na with h0 | h0
    · have ex : xs = [] := List.eq_nil_of_length_eq_zero (by omega)
      have ey : ys = [] := List.eq_nil_of_length_eq_zero (by omega)
      have hd : decide (Dc.val xs < Dc.val ys) = false := by rw [ex, ey]; decide
      rw [hd]
      have HD := hide hd
      have HN := hide (And.intro hna hnb)
      have HVA := hide hva
      have HVB := hide hvb
      have HX := hide (And.intro ex ey)
      clear hd hva hvb da db ca cb hna hnb ex ey hlx
      subst h0
      go_enter Tryz.func130, Tryz.ntmps130
      go_wp2
      refine wp_loop_rounds 1 ?_
      rw [rounds_succ]
      go_wp2
      go_ret
      exact ⟨rfl, Below.refl _ _⟩
    · rcases hva with ⟨e, _⟩ | ⟨ba, oa, capa', ea, _, _, hca⟩
      · exfalso; rw [e] at hna; simp at hna; omega
      rcases hvb with ⟨e, _⟩ | ⟨bb, ob, capb', eb, _, _, hcb⟩
      · exfalso; rw [e] at hnb; simp at hnb; omega
      injection ea with ea1 ea2 ea3
      injection eb with eb1 eb2 eb3
      subst ea1 eb1
      have HCA := hide hca
      have HCB := hide hcb
      have HDA := hide (And.intro da db)
      have HLX := hide hlx
      have HNA := hide (And.intro hna hnb)
      have hn1000 : na ≤ 1000 := by omega
      clear hca hcb da db ca cb hlx hna hnb ea2 eb2 ea3 eb3
      go_enter Tryz.func130, Tryz.ntmps130
      go_wp2
      go_loopw [5] (fun t wr => ∃ k m : Nat, t = .int .i64 ((k : Int) - 1) ∧ k ≤ na ∧ Hid (xs.drop k = ys.drop k) ∧ wr = w.drewN m) (fun t _ => (intOf t + 1).toNat)
      case atStart => exact ⟨na, 0, rfl, Nat.le_refl _, hide (by have h1 := unhide HNA; have h2 := unhide HLX; rw [List.drop_of_length_le (by omega), List.drop_of_length_le (by omega)]), rfl⟩
      case round =>
        obtain ⟨k, m, rfl, hk, HD, rfl⟩ := hrel
        rcases Nat.eq_zero_or_pos k with hk0 | hk0
        · subst hk0
          have hd : Hid (decide (Dc.val xs < Dc.val ys) = false) := hide (by have := unhide HD; rw [List.drop_zero, List.drop_zero] at this; rw [this]; exact decide_eq_false (by omega))
          go_wp2
          go_ret
          exact ⟨by rw [unhide hd]; rfl, below_drewN (Below.refl _ _) _⟩
        · have hca := unhide HCA (k - 1) (by have := unhide HNA; omega)
          have hcb := unhide HCB (k - 1) (by have := unhide HNA; omega)
          obtain ⟨x, hx⟩ : ∃ x, xs.getD (k - 1) 0 = x := ⟨_, rfl⟩
          obtain ⟨y, hy⟩ : ∃ y, ys.getD (k - 1) 0 = y := ⟨_, rfl⟩
          rw [hx] at hca
          rw [hy] at hcb
          have HX := hide hx
          have HY := hide hy
          clear hx hy
          have hkI : ((k : Int) - 1).toNat = k - 1 := by omega
          by_cases hxy : x = y
          · subst hxy
            go_wp2
            go_quiet (fail)
            go_wp2
            exact ⟨⟨k - 1, _, int_eqv (by omega), by omega, hide (by
              have h1 := unhide HNA
              rw [drop_pred xs k (by omega) (by omega), drop_pred ys k (by omega) (by omega), unhide HX, unhide HY, unhide HD]), rfl⟩, by simp [intOf]; omega⟩
          · have hxb : (x == y) = false := by rw [beq_eq_false_iff_ne]; exact hxy
            have hd : Hid (decide (Dc.val xs < Dc.val ys) = decide (x < y)) := hide (by
              have h1 := unhide HNA
              have h2 := unhide HDA
              have e1 : k - 1 + 1 = k := by omega
              by_cases hlt : x < y
              · rw [decide_eq_true hlt]
                exact decide_eq_true (Dc.lt_at xs ys h2.1 h2.2 (k - 1) (by omega) (unhide HLX) (by rw [e1]; exact unhide HD) (by rw [unhide HX, unhide HY]; exact hlt))
              · rw [decide_eq_false hlt]
                have := Dc.lt_at ys xs h2.2 h2.1 (k - 1) (by omega) (unhide HLX).symm (by rw [e1]; exact (unhide HD).symm) (by rw [unhide HX, unhide HY]; omega)
                exact decide_eq_false (by omega))
            have HXY := hide hxy
            clear hxy
            go_wp2
            go_quiet (fail)
            go_wp2
            go_quiet (fail)
            go_wp2
            go_ret
            exact ⟨by rw [unhide hd]; rfl, below_drewN (below_drewN (below_drewN (Below.refl _ _) _) _) _⟩
  · have hlb : ((na : Int) == (nb : Int)) = false := by rw [beq_eq_false_iff_ne]; omega
    have hd : decide (Dc.val xs < Dc.val ys) = decide (na < nb) := by
      by_cases h : na < nb
      · rw [decide_eq_true (Dc.lt_of_len xs ys da db cb (by omega)), decide_eq_true (by omega)]
      · have := Dc.lt_of_len ys xs db da ca (by omega)
        rw [decide_eq_false (by omega), decide_eq_false (by omega)]
    rw [hd]
    have HD := hide hd
    have HVA := hide hva
    have HVB := hide hvb
    have HN := hide (And.intro hna hnb)
    clear hd hva hvb da db ca cb hna hnb
    go_enter Tryz.func130, Tryz.ntmps130
    go_wp2
    go_ret
    exact ⟨rfl, Below.refl _ _⟩
end Go.Proofs.YtbeijnflfmjgfaaGreatDoor

namespace Go.Proofs.YtbeijnflfmjgfaaGreatDoor
open Go.RowKit

structure Vl where
  kind : Int
  num : Int
  text : ByteArray
  tr : Bool
  fail : Int
def Vl.cells (v : Vl) : Array Value := #[.int .i64 v.kind, .int .i64 v.num, .string v.text, .bool v.tr, .int .i64 v.fail]
abbrev noText : ByteArray := ⟨#[]⟩
def vE (f : Int) : Vl := ⟨4, 0, noText, false, if f < 1 ∨ 8 < f then 3 else f⟩
def vN (n : Int) : Vl := if goodB n = true then ⟨1, n, noText, false, 0⟩ else vE 2
def vT (s : ByteArray) : Vl := if 255 < s.size then vE 3 else ⟨2, 0, s, false, 0⟩
def vB (b : Bool) : Vl := ⟨3, 0, noText, b, 0⟩
def vGood (v : Vl) : Bool :=
  if v.kind = 0 then (v.num == 0) && (v.text.toList == []) && !v.tr && (v.fail == 0)
  else if v.kind = 1 then goodB v.num && (v.text.toList == []) && !v.tr && (v.fail == 0)
  else if v.kind = 2 then (v.num == 0) && decide (v.text.size ≤ 255) && !v.tr && (v.fail == 0)
  else if v.kind = 3 then (v.num == 0) && (v.text.toList == []) && (v.fail == 0)
  else if v.kind = 4 then (v.num == 0) && (v.text.toList == []) && !v.tr && decide (1 ≤ v.fail) && decide (v.fail ≤ 8)
  else false
def vSound (v : Vl) : Vl := if vGood v = true then v else vE 3

theorem infoRef : (Tryz.prog.info? 29).map (·.size) = some 5 := by kernel_rfl

set_option maxHeartbeats 1000000 in
theorem e_ref (f : Int) (w : World) :
    Calls Tryz.prog 77 #[.int .i64 f] w fun e w' => e = .returned (.agg (vE f).cells) ∧ Below w.heap.size w w' := by
  unfold vE Vl.cells
  by_cases h1 : f < 1
  · rw [if_pos (Or.inl h1)]
    go_enter Tryz.func77, Tryz.ntmps77
    go_wp2
    refine bodyPost_ret (results_cell_row rfl _ _ _ _ _ _ _ rfl (heap_alloc_new _ _) Tryz.underlying29 rfl infoRef) rfl ?_
    exact ⟨rfl, (Below.refl _ _).alloc (Nat.le_refl _) _⟩
  · by_cases h2 : 8 < f
    · rw [if_pos (Or.inr h2)]
      go_enter Tryz.func77, Tryz.ntmps77
      go_wp2
      refine bodyPost_ret (results_cell_row rfl _ _ _ _ _ _ _ rfl (heap_alloc_new _ _) Tryz.underlying29 rfl infoRef) rfl ?_
      exact ⟨rfl, (Below.refl _ _).alloc (Nat.le_refl _) _⟩
    · rw [if_neg (by intro h; rcases h with h | h; exact h1 h; exact h2 h)]
      have d2 : decide (8 < f) = false := decide_eq_false h2
      go_enter Tryz.func77, Tryz.ntmps77
      go_wp2
      refine bodyPost_ret (results_cell_row rfl _ _ _ _ _ _ _ rfl (heap_alloc_new _ _) Tryz.underlying29 rfl infoRef) rfl ?_
      exact ⟨rfl, (Below.refl _ _).alloc (Nat.le_refl _) _⟩

set_option maxHeartbeats 1000000 in
theorem b_ref (b : Bool) (w : World) :
    Calls Tryz.prog 39 #[.bool b] w fun e w' => e = .returned (.agg (vB b).cells) ∧ Below w.heap.size w w' := by
  unfold vB Vl.cells
  go_enter Tryz.func39, Tryz.ntmps39
  go_wp2
  refine bodyPost_ret (results_cell_row rfl _ _ _ _ _ _ _ rfl (heap_alloc_new _ _) Tryz.underlying29 rfl infoRef) rfl ?_
  exact ⟨rfl, (Below.refl _ _).alloc (Nat.le_refl _) _⟩

set_option maxHeartbeats 4000000 in
theorem good3_ref (v : Vl) (w : World) (hs : v.text.size ≤ 1000000) :
    Calls Tryz.prog 125 #[.agg v.cells] w fun e w' => e = .returned (.bool (vGood v)) ∧ Below w.heap.size w w' := by
  obtain ⟨k, n, s, b, f⟩ := v
  unfold vGood Vl.cells
  simp only [] at hs ⊢
  by_cases k0 : k = 0
  · rw [if_pos k0]
    subst k0
    cases h1 : (n == 0)
    · go_enter Tryz.func125, Tryz.ntmps125
      go_wp2
      go_ret
      exact ⟨rfl, (Below.refl _ _).alloc (Nat.le_refl _) _⟩
    · cases h2 : (s.toList == [])
      · go_enter Tryz.func125, Tryz.ntmps125
        go_wp2
        go_ret
        exact ⟨rfl, (Below.refl _ _).alloc (Nat.le_refl _) _⟩
      · cases b
        · cases h4 : (f == 0)
          · go_enter Tryz.func125, Tryz.ntmps125
            go_wp2
            go_ret
            exact ⟨rfl, (Below.refl _ _).alloc (Nat.le_refl _) _⟩
          · go_enter Tryz.func125, Tryz.ntmps125
            go_wp2
            go_ret
            exact ⟨rfl, (Below.refl _ _).alloc (Nat.le_refl _) _⟩
        · go_enter Tryz.func125, Tryz.ntmps125
          go_wp2
          go_ret
          exact ⟨rfl, (Below.refl _ _).alloc (Nat.le_refl _) _⟩
  · rw [if_neg k0]
    have kb0 : (k == 0) = false := by rw [beq_eq_false_iff_ne]; exact k0
    by_cases k1 : k = 1
    · rw [if_pos k1]
      subst k1
      clear k0 kb0
      cases hg : goodB n
      · have HG := hide hg
        clear hg
        go_enter Tryz.func125, Tryz.ntmps125
        go_wp2_with fail
        refine (good_ref n _).mono ?_
        rintro e w1 ⟨rfl, rfl⟩
        rw [unhide HG]
        go_wp2
        go_ret
        exact ⟨rfl, (Below.refl _ _).alloc (Nat.le_refl _) _⟩
      · have HG := hide hg
        clear hg
        cases h2 : (s.toList == [])
        · go_enter Tryz.func125, Tryz.ntmps125
          go_wp2_with fail
          refine (good_ref n _).mono ?_
          rintro e w1 ⟨rfl, rfl⟩
          rw [unhide HG]
          go_wp2
          go_ret
          exact ⟨rfl, (Below.refl _ _).alloc (Nat.le_refl _) _⟩
        · cases b
          · cases h4 : (f == 0)
            · go_enter Tryz.func125, Tryz.ntmps125
              go_wp2_with fail
              refine (good_ref n _).mono ?_
              rintro e w1 ⟨rfl, rfl⟩
              rw [unhide HG]
              go_wp2
              go_ret
              exact ⟨rfl, (Below.refl _ _).alloc (Nat.le_refl _) _⟩
            · go_enter Tryz.func125, Tryz.ntmps125
              go_wp2_with fail
              refine (good_ref n _).mono ?_
              rintro e w1 ⟨rfl, rfl⟩
              rw [unhide HG]
              go_wp2
              go_ret
              exact ⟨rfl, (Below.refl _ _).alloc (Nat.le_refl _) _⟩
          · go_enter Tryz.func125, Tryz.ntmps125
            go_wp2_with fail
            refine (good_ref n _).mono ?_
            rintro e w1 ⟨rfl, rfl⟩
            rw [unhide HG]
            go_wp2
            go_ret
            exact ⟨rfl, (Below.refl _ _).alloc (Nat.le_refl _) _⟩
    · rw [if_neg k1]
      have kb1 : (k == 1) = false := by rw [beq_eq_false_iff_ne]; exact k1
      by_cases k2 : k = 2
      · rw [if_pos k2]
        subst k2
        clear k0 kb0 k1 kb1
        cases h1 : (n == 0)
        · go_enter Tryz.func125, Tryz.ntmps125
          go_wp2
          go_ret
          exact ⟨rfl, (Below.refl _ _).alloc (Nat.le_refl _) _⟩
        · by_cases h2 : s.size ≤ 255
          · rw [decide_eq_true h2]
            have h2i : (s.size : Int) ≤ 255 := by omega
            have h2d : decide ((s.size : Int) ≤ 255) = true := decide_eq_true h2i
            clear h2
            cases b
            · cases h4 : (f == 0)
              · go_enter Tryz.func125, Tryz.ntmps125
                go_wp2
                go_ret
                exact ⟨rfl, (Below.refl _ _).alloc (Nat.le_refl _) _⟩
              · go_enter Tryz.func125, Tryz.ntmps125
                go_wp2
                go_ret
                exact ⟨rfl, (Below.refl _ _).alloc (Nat.le_refl _) _⟩
            · go_enter Tryz.func125, Tryz.ntmps125
              go_wp2
              go_ret
              exact ⟨rfl, (Below.refl _ _).alloc (Nat.le_refl _) _⟩
          · rw [decide_eq_false h2]
            have h2i : 255 < (s.size : Int) := by omega
            have h2d : decide ((s.size : Int) ≤ 255) = false := decide_eq_false (by omega)
            clear h2
            go_enter Tryz.func125, Tryz.ntmps125
            go_wp2
            go_ret
            exact ⟨rfl, (Below.refl _ _).alloc (Nat.le_refl _) _⟩
      · rw [if_neg k2]
        have kb2 : (k == 2) = false := by rw [beq_eq_false_iff_ne]; exact k2
        by_cases k3 : k = 3
        · rw [if_pos k3]
          subst k3
          clear k0 kb0 k1 kb1 k2 kb2
          cases h1 : (n == 0)
          · go_enter Tryz.func125, Tryz.ntmps125
            go_wp2
            go_ret
            exact ⟨rfl, (Below.refl _ _).alloc (Nat.le_refl _) _⟩
          · cases h2 : (s.toList == [])
            · go_enter Tryz.func125, Tryz.ntmps125
              go_wp2
              go_ret
              exact ⟨rfl, (Below.refl _ _).alloc (Nat.le_refl _) _⟩
            · cases h4 : (f == 0)
              · go_enter Tryz.func125, Tryz.ntmps125
                go_wp2
                go_ret
                exact ⟨rfl, (Below.refl _ _).alloc (Nat.le_refl _) _⟩
              · go_enter Tryz.func125, Tryz.ntmps125
                go_wp2
                go_ret
                exact ⟨rfl, (Below.refl _ _).alloc (Nat.le_refl _) _⟩
        · rw [if_neg k3]
          have kb3 : (k == 3) = false := by rw [beq_eq_false_iff_ne]; exact k3
          by_cases k4 : k = 4
          · rw [if_pos k4]
            subst k4
            clear k0 kb0 k1 kb1 k2 kb2 k3 kb3
            cases h1 : (n == 0)
            · go_enter Tryz.func125, Tryz.ntmps125
              go_wp2
              go_ret
              exact ⟨rfl, (Below.refl _ _).alloc (Nat.le_refl _) _⟩
            · cases h2 : (s.toList == [])
              · go_enter Tryz.func125, Tryz.ntmps125
                go_wp2
                go_ret
                exact ⟨rfl, (Below.refl _ _).alloc (Nat.le_refl _) _⟩
              · cases b
                · by_cases h5 : 1 ≤ f
                  · rw [decide_eq_true h5]
                    have h5i : 1 ≤ f := by omega
                    have h5d : decide (1 ≤ f) = true := decide_eq_true h5i
                    clear h5
                    by_cases h6 : f ≤ 8
                    · rw [decide_eq_true h6]
                      have h6i : f ≤ 8 := by omega
                      have h6d : decide (f ≤ 8) = true := decide_eq_true h6i
                      clear h6
                      go_enter Tryz.func125, Tryz.ntmps125
                      go_wp2
                      go_ret
                      exact ⟨rfl, (Below.refl _ _).alloc (Nat.le_refl _) _⟩
                    · rw [decide_eq_false h6]
                      have h6i : 8 < f := by omega
                      have h6d : decide (f ≤ 8) = false := decide_eq_false (by omega)
                      clear h6
                      go_enter Tryz.func125, Tryz.ntmps125
                      go_wp2
                      go_ret
                      exact ⟨rfl, (Below.refl _ _).alloc (Nat.le_refl _) _⟩
                  · rw [decide_eq_false h5]
                    have h5i : f < 1 := by omega
                    have h5d : decide (1 ≤ f) = false := decide_eq_false (by omega)
                    clear h5
                    go_enter Tryz.func125, Tryz.ntmps125
                    go_wp2
                    go_ret
                    exact ⟨rfl, (Below.refl _ _).alloc (Nat.le_refl _) _⟩
                · go_enter Tryz.func125, Tryz.ntmps125
                  go_wp2
                  go_ret
                  exact ⟨rfl, (Below.refl _ _).alloc (Nat.le_refl _) _⟩
          · rw [if_neg k4]
            have kb4 : (k == 4) = false := by rw [beq_eq_false_iff_ne]; exact k4
            clear k0 k1 k2 k3 k4
            go_enter Tryz.func125, Tryz.ntmps125
            go_wp2
            go_ret
            exact ⟨rfl, (Below.refl _ _).alloc (Nat.le_refl _) _⟩
end Go.Proofs.YtbeijnflfmjgfaaGreatDoor

namespace Go.Proofs.YtbeijnflfmjgfaaGreatDoor
open Go.RowKit

def FiveAt (w : World) (B : Nat) (t : TypeId) (cs : Array Value) : Prop := w.heap[B]? = some (.cells cs t (0, 0)) ∧ cs.size = 5
theorem five_c {w : World} {B : Nat} {t : TypeId} {cs : Array Value} (h : FiveAt w B t cs) (i : Nat) (hi : i < 5) : ∃ x, w.cell? ⟨B, i, none⟩ = some x := by
  obtain ⟨h1, h2⟩ := h
  exact ⟨cs[i]'(by omega), by simp [World.cell?, h1, h2, hi]⟩
theorem five_f {w : World} {B : Nat} {t : TypeId} {cs : Array Value} (h : FiveAt w B t cs) (i : Nat) : w.frozen? ⟨B, i, none⟩ = false := by
  simp [World.frozen?, h.1]
theorem five_lt {w : World} {B : Nat} {t : TypeId} {cs : Array Value} (h : FiveAt w B t cs) : B < w.heap.size := by
  rcases Nat.lt_or_ge B w.heap.size with h1 | h1
  · exact h1
  · have := h.1; rw [Array.getElem?_eq_none h1] at this; cases this
theorem five_below {w w' : World} {B N : Nat} {t : TypeId} {cs : Array Value} (h : FiveAt w B t cs) (hb : Below N w w') (hB : B < N) : FiveAt w' B t cs := by
  exact ⟨by rw [hb.block B hB]; exact h.1, h.2⟩
theorem five_set {w : World} {B : Nat} {t : TypeId} {cs : Array Value} (h : FiveAt w B t cs) (a b c d e : Value) :
    FiveAt (((((w.setCell ⟨B, 0, none⟩ a).setCell ⟨B, 1, none⟩ b).setCell ⟨B, 2, none⟩ c).setCell ⟨B, 3, none⟩ d).setCell ⟨B, 4, none⟩ e) B t #[a, b, c, d, e] := by
  obtain ⟨h1, h2⟩ := h
  obtain ⟨l⟩ := cs
  obtain ⟨c0, c1, c2, c3, c4, rfl⟩ : ∃ c0 c1 c2 c3 c4, l = [c0, c1, c2, c3, c4] := by
    match l, h2 with
    | [x0, x1, x2, x3, x4], _ => exact ⟨x0, x1, x2, x3, x4, rfl⟩
  refine ⟨?_, rfl⟩
  rw [heap_setCell_same _ B 4 #[a, b, c, d, c4] t e (by
    rw [heap_setCell_same _ B 3 #[a, b, c, c3, c4] t d (by
      rw [heap_setCell_same _ B 2 #[a, b, c2, c3, c4] t c (by
        rw [heap_setCell_same _ B 1 #[a, c1, c2, c3, c4] t b (by
          rw [heap_setCell_same w B 0 #[c0, c1, c2, c3, c4] t a h1]; rfl)]; rfl)]; rfl)]; rfl)]
  rfl
theorem five_new (w : World) (t : TypeId) (a b c d e : Value) : FiveAt (w.alloc (.cells #[a, b, c, d, e] t)) w.heap.size t #[a, b, c, d, e] := ⟨heap_alloc_new _ _, rfl⟩
theorem five_new2 (w : World) (o : Obj) (t : TypeId) (a b c d e : Value) : FiveAt ((w.alloc o).alloc (.cells #[a, b, c, d, e] t)) (w.heap.size + 1) t #[a, b, c, d, e] := ⟨heap_alloc2_new _ _ _, rfl⟩
theorem five_old (w : World) (t : TypeId) (a b c d e : Value) (p : Obj) : FiveAt ((w.alloc (.cells #[a, b, c, d, e] t)).alloc p) w.heap.size t #[a, b, c, d, e] :=
  ⟨heap_alloc2_old _ _ _, rfl⟩
theorem below_five {N : Nat} {a w : World} (h : Below N a w) {B : Nat} (hB : N ≤ B) (x0 x1 x2 x3 x4 : Value) :
    Below N a (((((w.setCell ⟨B, 0, none⟩ x0).setCell ⟨B, 1, none⟩ x1).setCell ⟨B, 2, none⟩ x2).setCell ⟨B, 3, none⟩ x3).setCell ⟨B, 4, none⟩ x4) :=
  ((((h.setCell (p := ⟨B, 0, none⟩) hB _).setCell (p := ⟨B, 1, none⟩) hB _).setCell (p := ⟨B, 2, none⟩) hB _).setCell (p := ⟨B, 3, none⟩) hB _).setCell (p := ⟨B, 4, none⟩) hB _
theorem below_nx {w a b : World} (h : Below w.heap.size w a) (k : Below a.heap.size a b) : Below w.heap.size w b := h.trans (k.mono h.size)
theorem below_al (w : World) (o : Obj) : Below w.heap.size w (w.alloc o) := (Below.refl _ _).alloc (Nat.le_refl _) _
theorem below_al2 (w : World) (o p : Obj) : Below w.heap.size w ((w.alloc o).alloc p) := (below_al w o).alloc (by simp) _

set_option maxHeartbeats 2000000 in
theorem n_ref (n : Int) (w : World) :
    Calls Tryz.prog 51 #[.int .i64 n] w fun e w' => e = .returned (.agg (vN n).cells) ∧ Below w.heap.size w w' := by
  unfold vN
  cases hg : goodB n
  · have HG := hide hg
    clear hg
    go_enter Tryz.func51, Tryz.ntmps51
    go_wp2_with fail
    refine (good_ref n _).mono ?_
    rintro e w1 ⟨rfl, rfl⟩
    rw [unhide HG]
    go_wp2_with fail
    refine (e_ref 2 _).mono ?_
    rintro e w2 ⟨rfl, b2⟩
    have hf := five_below (five_new w 29 _ _ _ _ _) b2 (by simp)
    obtain ⟨x0, c0⟩ := five_c hf 0 (by omega)
    obtain ⟨x1, c1⟩ := five_c hf 1 (by omega)
    obtain ⟨x2, c2⟩ := five_c hf 2 (by omega)
    obtain ⟨x3, c3⟩ := five_c hf 3 (by omega)
    obtain ⟨x4, c4⟩ := five_c hf 4 (by omega)
    have f0 := five_f hf 0
    have f1 := five_f hf 1
    have f2 := five_f hf 2
    have f3 := five_f hf 3
    have f4 := five_f hf 4
    have HF := hide hf
    have HB := hide ((below_al w _).trans (b2.mono (by simp)))
    clear hf b2
    unfold vE Vl.cells
    go_wp2
    refine bodyPost_ret (results_cell_row rfl _ _ _ _ _ _ _ rfl (five_set (unhide HF) _ _ _ _ _).1 Tryz.underlying29 rfl infoRef) rfl ?_
    exact ⟨rfl, below_five (unhide HB) (Nat.le_refl _) _ _ _ _ _⟩
  · have HG := hide hg
    clear hg
    unfold Vl.cells
    go_enter Tryz.func51, Tryz.ntmps51
    go_wp2_with fail
    refine (good_ref n _).mono ?_
    rintro e w1 ⟨rfl, rfl⟩
    rw [unhide HG]
    go_wp2
    refine bodyPost_ret (results_cell_row rfl _ _ _ _ _ _ _ rfl (heap_alloc_new _ _) Tryz.underlying29 rfl infoRef) rfl ?_
    exact ⟨rfl, below_al _ _⟩
end Go.Proofs.YtbeijnflfmjgfaaGreatDoor

namespace Go.Proofs.YtbeijnflfmjgfaaGreatDoor
open Go.RowKit

set_option maxHeartbeats 2000000 in
theorem t_ref (s : ByteArray) (w : World) (hs : s.size ≤ 1000000) :
    Calls Tryz.prog 41 #[.string s] w fun e w' => e = .returned (.agg (vT s).cells) ∧ Below w.heap.size w w' := by
  unfold vT
  by_cases hl : 255 < s.size
  · rw [if_pos hl]
    have hi : 255 < (s.size : Int) := by omega
    clear hl
    go_enter Tryz.func41, Tryz.ntmps41
    go_wp2_with fail
    refine (e_ref 3 _).mono ?_
    rintro e w2 ⟨rfl, b2⟩
    have hf := five_below (five_new w 29 _ _ _ _ _) b2 (by simp)
    obtain ⟨x0, c0⟩ := five_c hf 0 (by omega)
    obtain ⟨x1, c1⟩ := five_c hf 1 (by omega)
    obtain ⟨x2, c2⟩ := five_c hf 2 (by omega)
    obtain ⟨x3, c3⟩ := five_c hf 3 (by omega)
    obtain ⟨x4, c4⟩ := five_c hf 4 (by omega)
    have f0 := five_f hf 0
    have f1 := five_f hf 1
    have f2 := five_f hf 2
    have f3 := five_f hf 3
    have f4 := five_f hf 4
    have HF := hide hf
    have HB := hide ((below_al w _).trans (b2.mono (by simp)))
    clear hf b2
    unfold vE Vl.cells
    go_wp2
    refine bodyPost_ret (results_cell_row rfl _ _ _ _ _ _ _ rfl (five_set (unhide HF) _ _ _ _ _).1 Tryz.underlying29 rfl infoRef) rfl ?_
    exact ⟨rfl, below_five (unhide HB) (Nat.le_refl _) _ _ _ _ _⟩
  · rw [if_neg hl]
    have hi : (s.size : Int) ≤ 255 := by omega
    clear hl
    unfold Vl.cells
    go_enter Tryz.func41, Tryz.ntmps41
    go_wp2
    refine bodyPost_ret (results_cell_row rfl _ _ _ _ _ _ _ rfl (heap_alloc_new _ _) Tryz.underlying29 rfl infoRef) rfl ?_
    exact ⟨rfl, below_al _ _⟩

set_option maxHeartbeats 2000000 in
theorem sound_ref (v : Vl) (w : World) (hs : v.text.size ≤ 1000000) :
    Calls Tryz.prog 72 #[.agg v.cells] w fun e w' => e = .returned (.agg (vSound v).cells) ∧ Below w.heap.size w w' := by
  have HGR := hide (fun w => good3_ref v w hs)
  unfold vSound
  cases hg : vGood v
  · have HG := hide hg
    clear hg
    unfold Vl.cells at HGR ⊢
    go_enter Tryz.func72, Tryz.ntmps72
    go_wp2_with fail
    refine (unhide HGR _).mono ?_
    rintro e w1 ⟨rfl, b1⟩
    rw [unhide HG]
    go_wp2_with fail
    refine (e_ref 3 _).mono ?_
    rintro e w2 ⟨rfl, b2⟩
    have hf0 := five_below (five_new2 w (.cells #[.int .i64 v.kind, .int .i64 v.num, .string v.text, .bool v.tr, .int .i64 v.fail] 29) 29 (.int .i64 0) (.int .i64 0) (.string noText) (.bool false) (.int .i64 0)) b1 (by simp)
    have hb1 := (below_al2 w (.cells #[.int .i64 v.kind, .int .i64 v.num, .string v.text, .bool v.tr, .int .i64 v.fail] 29) (.cells #[.int .i64 0, .int .i64 0, .string noText, .bool false, .int .i64 0] 29)).trans (b1.mono (by simp; omega))
    have hf := five_below (hf0) b2 (five_lt hf0)
    obtain ⟨x0, c0⟩ := five_c hf 0 (by omega)
    obtain ⟨x1, c1⟩ := five_c hf 1 (by omega)
    obtain ⟨x2, c2⟩ := five_c hf 2 (by omega)
    obtain ⟨x3, c3⟩ := five_c hf 3 (by omega)
    obtain ⟨x4, c4⟩ := five_c hf 4 (by omega)
    have f0 := five_f hf 0
    have f1 := five_f hf 1
    have f2 := five_f hf 2
    have f3 := five_f hf 3
    have f4 := five_f hf 4
    have HF := hide hf
    have HB := hide (below_nx hb1 b2)
    clear hf b2 hf0 b1 hb1
    unfold vE Vl.cells
    go_wp2
    refine bodyPost_ret (results_cell_row rfl _ _ _ _ _ _ _ rfl (five_set (unhide HF) _ _ _ _ _).1 Tryz.underlying29 rfl infoRef) rfl ?_
    exact ⟨rfl, below_five (unhide HB) (by omega) _ _ _ _ _⟩
  · have HG := hide hg
    clear hg
    unfold Vl.cells at HGR ⊢
    go_enter Tryz.func72, Tryz.ntmps72
    go_wp2_with fail
    refine (unhide HGR _).mono ?_
    rintro e w1 ⟨rfl, b2⟩
    rw [unhide HG]
    have ho := five_below (five_old w 29 (.int .i64 v.kind) (.int .i64 v.num) (.string v.text) (.bool v.tr) (.int .i64 v.fail) (.cells #[.int .i64 0, .int .i64 0, .string noText, .bool false, .int .i64 0] 29)) b2 (by simp; omega)
    have o0 : w1.cell? ⟨w.heap.size, 0, none⟩ = some (.int .i64 v.kind) := by simp [World.cell?, ho.1]
    have o1 : w1.cell? ⟨w.heap.size, 1, none⟩ = some (.int .i64 v.num) := by simp [World.cell?, ho.1]
    have o2 : w1.cell? ⟨w.heap.size, 2, none⟩ = some (.string v.text) := by simp [World.cell?, ho.1]
    have o3 : w1.cell? ⟨w.heap.size, 3, none⟩ = some (.bool v.tr) := by simp [World.cell?, ho.1]
    have o4 : w1.cell? ⟨w.heap.size, 4, none⟩ = some (.int .i64 v.fail) := by simp [World.cell?, ho.1]
    clear ho
    have hf := five_below (five_new2 w (.cells #[.int .i64 v.kind, .int .i64 v.num, .string v.text, .bool v.tr, .int .i64 v.fail] 29) 29 (.int .i64 0) (.int .i64 0) (.string noText) (.bool false) (.int .i64 0)) b2 (by simp)
    obtain ⟨x0, c0⟩ := five_c hf 0 (by omega)
    obtain ⟨x1, c1⟩ := five_c hf 1 (by omega)
    obtain ⟨x2, c2⟩ := five_c hf 2 (by omega)
    obtain ⟨x3, c3⟩ := five_c hf 3 (by omega)
    obtain ⟨x4, c4⟩ := five_c hf 4 (by omega)
    have f0 := five_f hf 0
    have f1 := five_f hf 1
    have f2 := five_f hf 2
    have f3 := five_f hf 3
    have f4 := five_f hf 4
    have HF := hide hf
    have HB := hide ((below_al2 w (.cells #[.int .i64 v.kind, .int .i64 v.num, .string v.text, .bool v.tr, .int .i64 v.fail] 29) (.cells #[.int .i64 0, .int .i64 0, .string noText, .bool false, .int .i64 0] 29)).trans (b2.mono (by simp; omega)))
    clear hf b2
    go_wp2
    refine bodyPost_ret (results_cell_row rfl _ _ _ _ _ _ _ rfl (five_set (unhide HF) _ _ _ _ _).1 Tryz.underlying29 rfl infoRef) rfl ?_
    exact ⟨rfl, below_five (unhide HB) (by omega) _ _ _ _ _⟩
end Go.Proofs.YtbeijnflfmjgfaaGreatDoor

namespace Go.Proofs.YtbeijnflfmjgfaaGreatDoor
open Go.RowKit

def signL : List ByteArray := [⟨#[]⟩, ⟨#[35, 68, 73, 86, 47, 48, 33]⟩, ⟨#[35, 78, 85, 77, 33]⟩, ⟨#[35, 86, 65, 76, 85, 69, 33]⟩, ⟨#[35, 82, 69, 70, 33]⟩, ⟨#[35, 78, 65, 77, 69, 63]⟩, ⟨#[35, 78, 47, 65]⟩, ⟨#[35, 67, 89, 67, 76, 69, 33]⟩, ⟨#[35, 76, 73, 78, 75, 33]⟩]
def signV (f : Int) : ByteArray := if f < 1 ∨ 8 < f then noText else signL.getD f.toNat noText

set_option maxHeartbeats 4000000 in
theorem signs_ref (f : Int) (w : World) :
    Calls Tryz.prog 127 #[.int .i64 f] w fun e w' => e = .returned (.string (signV f)) ∧ Below w.heap.size w w' := by
  by_cases h1 : f < 1
  · have e1 : signV f = noText := by unfold signV; rw [if_pos (Or.inl h1)]
    rw [e1]
    have E1 := hide e1
    clear e1
    go_enter Tryz.func127, Tryz.ntmps127
    go_wp2
    go_ret
    exact ⟨rfl, below_al _ _⟩
  · by_cases h2 : 8 < f
    · have e1 : signV f = noText := by unfold signV; rw [if_pos (Or.inr h2)]
      rw [e1]
      have E1 := hide e1
      clear e1
      go_enter Tryz.func127, Tryz.ntmps127
      go_wp2
      go_ret
      exact ⟨rfl, below_al _ _⟩
    · have hf : f = 1 ∨ f = 2 ∨ f = 3 ∨ f = 4 ∨ f = 5 ∨ f = 6 ∨ f = 7 ∨ f = 8 := by omega
      clear h1 h2
      rcases hf with rfl | rfl | rfl | rfl | rfl | rfl | rfl | rfl
      · go_enter Tryz.func127, Tryz.ntmps127
        go_wp2
        go_ret
        exact ⟨rfl, below_al _ _⟩
      · go_enter Tryz.func127, Tryz.ntmps127
        go_wp2
        go_ret
        exact ⟨rfl, below_al _ _⟩
      · go_enter Tryz.func127, Tryz.ntmps127
        go_wp2
        go_ret
        exact ⟨rfl, below_al _ _⟩
      · go_enter Tryz.func127, Tryz.ntmps127
        go_wp2
        go_ret
        exact ⟨rfl, below_al _ _⟩
      · go_enter Tryz.func127, Tryz.ntmps127
        go_wp2
        go_ret
        exact ⟨rfl, below_al _ _⟩
      · go_enter Tryz.func127, Tryz.ntmps127
        go_wp2
        go_ret
        exact ⟨rfl, below_al _ _⟩
      · go_enter Tryz.func127, Tryz.ntmps127
        go_wp2
        go_ret
        exact ⟨rfl, below_al _ _⟩
      · go_enter Tryz.func127, Tryz.ntmps127
        go_wp2
        go_ret
        exact ⟨rfl, below_al _ _⟩
end Go.Proofs.YtbeijnflfmjgfaaGreatDoor

namespace Go.Proofs.YtbeijnflfmjgfaaGreatDoor
open Go.RowKit

def lowC (c : UInt8) : UInt8 := if 65 ≤ c.toNat ∧ c.toNat ≤ 90 then UInt8.ofNat (c.toNat + 32) else c
def mapB (f : UInt8 → UInt8) (s : ByteArray) : ByteArray := ⟨(s.data.toList.map f).toArray⟩
theorem mapB_size (f : UInt8 → UInt8) (s : ByteArray) : (mapB f s).size = s.size := by
  unfold mapB ByteArray.size; simp

def byteAt (s : ByteArray) (j : Nat) : UInt8 := s.data.toList.getD j 0
def TurnAt (f : UInt8 → UInt8) (s : ByteArray) (w : World) (B i : Nat) : Prop :=
  B < w.heap.size ∧ ∀ j, j < s.size → w.cell? ⟨B, j, none⟩ = some (.int .u8 (((if j < i then f (byteAt s j) else byteAt s j).toNat : Nat) : Int)) ∧ w.frozen? ⟨B, j, none⟩ = false
theorem turn_set {f : UInt8 → UInt8} {s : ByteArray} {w : World} {B i : Nat} (h : TurnAt f s w B i) (hi : i < s.size) : TurnAt f s (w.setCell ⟨B, i, none⟩ (.int .u8 ((f (byteAt s i)).toNat : Int))) B (i + 1) := by
  refine ⟨by simpa using h.1, fun j hj => ⟨?_, by rw [World.frozen?_setCell]; exact (h.2 j hj).2⟩⟩
  by_cases e : j = i
  · subst e
    rw [World.cell?_setCell_same _ _ _ (h.2 j hj).1, if_pos (by omega)]
  · rw [World.cell?_setCell_other _ _ _ _ (by intro hc; injection hc with _ h2; omega), (h.2 j hj).1]
    by_cases h1 : j < i
    · rw [if_pos h1, if_pos (by omega)]
    · rw [if_neg h1, if_neg (by omega)]
theorem turn_same {f : UInt8 → UInt8} {s : ByteArray} {w : World} {B i : Nat} (h : TurnAt f s w B i) (hf : f (byteAt s i) = byteAt s i) : TurnAt f s w B (i + 1) := by
  refine ⟨h.1, fun j hj => ⟨?_, (h.2 j hj).2⟩⟩
  rw [(h.2 j hj).1]
  by_cases e : j = i
  · subst e; rw [if_neg (by omega), if_pos (by omega), hf]
  · by_cases h1 : j < i
    · rw [if_pos h1, if_pos (by omega)]
    · rw [if_neg h1, if_neg (by omega)]
theorem turn_start (f : UInt8 → UInt8) (s : ByteArray) (w : World) (c : Nat) :
    TurnAt f s (w.drew.alloc (.cells (bytesRow s c) 5 ((bytesRow s c).size, (bytesRow s c).size + 1))) w.heap.size 0 := by
  have hh : (w.drew.alloc (.cells (bytesRow s c) 5 ((bytesRow s c).size, (bytesRow s c).size + 1))).heap[w.heap.size]? = some (.cells (bytesRow s c) 5 ((bytesRow s c).size, (bytesRow s c).size + 1)) := heap_alloc_new _ _
  refine ⟨by show w.heap.size < (w.heap.push _).size; simp, fun j hj => ⟨?_, ?_⟩⟩
  · rw [if_neg (by omega)]
    have h1 := bytesRow_at s c j hj
    simp only [World.cell?, hh]
    rw [if_neg (by simp), h1]
    unfold byteAt
    rw [List.getD_eq_getElem?_getD, List.getElem?_eq_getElem (by exact hj)]
    rfl
  · have h2 : s.size ≤ (bytesRow s c).size := by
      show s.data.size ≤ _
      unfold bytesRow
      rw [Array.size_append, Array.size_map]
      omega
    simp only [World.frozen?, hh]
    rw [Bool.and_eq_false_iff]
    exact Or.inl (decide_eq_false (by simp; omega))
theorem turn_end {f : UInt8 → UInt8} {s : ByteArray} {w : World} {B i : Nat} (h : TurnAt f s w B i) (hi : s.size ≤ i) (cap : Nat) :
    (convert 133 9 (.slice (some ⟨B, 0, none⟩) s.size cap)).run Tryz.prog w = .ok (.string (mapB f s)) w := by
  have e : (s.data.toList.map f).length = s.size := by rw [List.length_map]; rfl
  have := run_convert_bytes_back (P := Tryz.prog) w 133 9 5 ⟨B, 0, none⟩ cap (s.data.toList.map f) Tryz.underlying133 Tryz.underlying5 Tryz.underlying9 (fun j hj => by
    rw [e] at hj
    have := (h.2 j hj).1
    rw [if_pos (by omega)] at this
    rw [show (⟨B, 0, none⟩ : Addr).add j = ⟨B, j, none⟩ by simp [Addr.add]; omega]
    rw [this, List.getElem_map]
    unfold byteAt
    rw [List.getD_eq_getElem?_getD, List.getElem?_eq_getElem (by exact hj)]
    rfl)
  rw [e] at this
  exact this

set_option maxRecDepth 100000 in
set_option maxHeartbeats 2000000 in
theorem lower_ref (s : ByteArray) (w : World) (hs : s.size ≤ 1000000) :
    Calls Tryz.prog 74 #[.string s] w fun e w' => e = .returned (.string (mapB lowC s)) ∧ Below w.heap.size w w' := by
  have hc := run_bytes_of_string (P := Tryz.prog) w 9 133 5 s Tryz.underlying9 Tryz.underlying133 Tryz.underlying5
  obtain ⟨c, hcc⟩ : ∃ c, grownCap w s.size 0 5 = c := ⟨_, rfl⟩
  rw [hcc] at hc
  clear hcc
  have HT := hide (turn_start lowC s w c)
  have HB : Hid (Below w.heap.size w (w.drew.alloc (.cells (bytesRow s c) 5 ((bytesRow s c).size, (bytesRow s c).size + 1)))) := hide ((Below.refl _ _).drew.alloc (Nat.le_refl _) _)
  obtain ⟨w0, hw0⟩ : ∃ w0, w.drew.alloc (.cells (bytesRow s c) 5 ((bytesRow s c).size, (bytesRow s c).size + 1)) = w0 := ⟨_, rfl⟩
  rw [hw0] at hc HT HB
  clear hw0
  obtain ⟨n, hn⟩ : ∃ n, s.size = n := ⟨_, rfl⟩
  rw [hn] at hc hs
  have HN := hide hn
  go_enter Tryz.func74, Tryz.ntmps74
  go_wp2
  clear hc
  go_loopw [4] (fun t wr => ∃ i : Nat, t = .int .i64 (i : Int) ∧ i ≤ n ∧ Hid (TurnAt lowC s wr w.heap.size i) ∧ Hid (Below w.heap.size w wr)) (fun t _ => n - (intOf t).toNat)
  case atStart => exact ⟨0, rfl, by omega, HT, HB⟩
  case round =>
    clear HT HB
    obtain ⟨i, rfl, hi, HT, HB⟩ := hrel
    by_cases hin : i < n
    · obtain ⟨c0, f0⟩ := (unhide HT).2 i (by omega)
      rw [if_neg (by omega)] at c0
      obtain ⟨x, hx⟩ : ∃ x, byteAt s i = x := ⟨_, rfl⟩
      have hx8 : x.toNat < 256 := x.toNat_lt
      rw [hx] at c0
      have HX := hide hx
      obtain ⟨k, hk⟩ : ∃ k : Nat, x.toNat = k := ⟨_, rfl⟩
      rw [hk] at c0 hx8
      have HK := hide hk
      clear hx hk
      by_cases h1 : 65 ≤ k
      · by_cases h2 : k ≤ 90
        · have TS : Hid (TurnAt lowC s (wr.setCell ⟨w.heap.size, i, none⟩ (.int .u8 ((k : Int) + 32))) w.heap.size (i + 1)) := hide (by
            have h := turn_set (unhide HT) (by have := unhide HN; omega)
            rw [unhide HX] at h
            have e : ((lowC x).toNat : Int) = (k : Int) + 32 := by
              unfold lowC
              rw [unhide HK, if_pos ⟨h1, h2⟩, UInt8.toNat_ofNat']
              omega
            rw [e] at h
            exact h)
          have HB2 := hide ((unhide HB).setCell (p := ⟨w.heap.size, i, none⟩) (Nat.le_refl _) (.int .u8 ((k : Int) + 32)))
          go_wp2
          go_roundw
          case rel => exact ⟨i + 1, by go_num, by omega, TS, HB2⟩
          case measure => simp [intOf]; omega
        · have TS := hide (turn_same (unhide HT) (by rw [unhide HX]; unfold lowC; rw [unhide HK, if_neg (by omega)]))
          have d2 : decide ((k : Int) ≤ 90) = false := decide_eq_false (by omega)
          go_wp2
          go_roundw
          case rel => exact ⟨i + 1, by go_num, by omega, TS, HB⟩
          case measure => simp [intOf]; omega
      · have TS := hide (turn_same (unhide HT) (by rw [unhide HX]; unfold lowC; rw [unhide HK, if_neg (by omega)]))
        have d1 : decide (65 ≤ (k : Int)) = false := decide_eq_false (by omega)
        go_wp2
        go_roundw
        case rel => exact ⟨i + 1, by go_num, by omega, TS, HB⟩
        case measure => simp [intOf]; omega
    · have hb := turn_end (unhide HT) (by have := unhide HN; omega) c
      rw [unhide HN] at hb
      go_wp2
      go_ret
      exact ⟨rfl, unhide HB⟩

end Go.Proofs.YtbeijnflfmjgfaaGreatDoor
