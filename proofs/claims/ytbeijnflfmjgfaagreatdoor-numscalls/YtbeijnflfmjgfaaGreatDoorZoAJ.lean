/- The contract of the reference's plus, of layer 2. -/
import Derived.BigQuiet
import Derived.BigRegion
import Derived.Deep.CutBlock
import Derived.Deep.CutRange
import Derived.Deep.QuietTactic
import Derived.Laws.Bits64b
import Derived.Laws.BitsAllLaws
import Derived.Laws.FloatArith
import Derived.Lib.BitFns
import Derived.Lib.ItoaNum
import Derived.Shelf.Bits.Mul64
import Derived.Shelf.LaysM
import Derived.Shelf.Small.Bits
import Derived.Shelf.Small.Strs
import Derived.Shelf.Small.Wraps
import Derived.Shelf.Strconv.Itoa0
import Derived.Shelf.Strconv.Itoa1
import Derived.Shelf.Strconv.Itoa2
import Derived.Shelf.Strings.AsciiSet
import Derived.Shelf.Strings.Cut
import Derived.Shelf.Strings.Prefix
import Derived.Shelf.Strings.Search1
import Derived.Shelf.Strings.Search2
import Derived.Shelf.Strings.Shaped
import Derived.Shelf.Strings.Trim
import Derived.Test.YtbeijnflfmjgfaaGreatDoorProg
import Derived.Test.YtbeijnflfmjgfaaGreatDoorRows
import Derived.WalkKit
import Derived.WalkLawsBesides
import Derived.WalkSmall
import Derived.WalkSpells
import Ieee.Arith
import Derived.Test.YtbeijnflfmjgfaaGreatDoorZoAA
import Derived.Test.YtbeijnflfmjgfaaGreatDoorZoAB
import Derived.Test.YtbeijnflfmjgfaaGreatDoorZoAC
import Derived.Test.YtbeijnflfmjgfaaGreatDoorZoAD
import Derived.Test.YtbeijnflfmjgfaaGreatDoorZoAE
import Derived.Test.YtbeijnflfmjgfaaGreatDoorZoAF
import Derived.Test.YtbeijnflfmjgfaaGreatDoorZoAH
import Derived.Test.YtbeijnflfmjgfaaGreatDoorZoAI
namespace Go.Proofs.YtbeijnflfmjgfaaGreatDoor
open Go.RowKit


def SumPost (n : Int) (len : Nat) (w : World) (e : Ending) (w' : World) : Prop :=
  Below w.heap.size w w' ∧ ∃ v zs, e = .returned v ∧ Arr w' v zs ∧ Dc.Dig zs ∧ Dc.val zs = n ∧ zs.length ≤ len

theorem set_self2 (os : List Int) (i : Nat) (hi : i < os.length) (h : os.getD i 0 = 0) : os.set i 0 = os := by
  apply List.ext_getElem?
  intro j
  rw [List.getElem?_set]
  by_cases hj : i = j
  · subst hj
    rw [if_pos rfl, if_pos hi]
    rw [List.getD_eq_getElem?_getD, List.getElem?_eq_getElem hi] at h
    rw [List.getElem?_eq_getElem hi]
    exact congrArg some h.symm
  · rw [if_neg hj]

theorem set_swap (os : List Int) (k : Nat) (s q r : Int) : ((os.set k s).set (k + 1) q).set k r = (os.set (k + 1) q).set k r := by
  rw [List.set_comm s q (show k ≠ k + 1 by omega), List.set_set]
theorem plus_step2 (xs ys os : List Int) (n k : Nat) (hk : k < n) (dx : Dc.Dig xs) (dy : Dc.Dig ys) (h : PlusInv xs ys os n k) :
    PlusInv xs ys ((os.set (k + 1) ((os.getD k 0 + xs.getD k 0 + ys.getD k 0) / 10)).set k ((os.getD k 0 + xs.getD k 0 + ys.getD k 0) % 10)) n (k + 1) := by
  have hs := plus_step xs ys os n k hk dx dy h
  have a1 := dx.getD k
  have a2 := dy.getD k
  have a3 := h.mid
  have e0 := h.high (k + 1) (by omega)
  have hl := h.len
  obtain ⟨s, hss⟩ : ∃ s, os.getD k 0 + xs.getD k 0 + ys.getD k 0 = s := ⟨_, rfl⟩
  rw [hss] at hs ⊢
  by_cases h10 : s < 10
  · rw [show s / 10 = 0 by omega, show s % 10 = s by omega, set_self2 os (k + 1) (by omega) e0]
    exact hs.1 h10
  · rw [show s / 10 = 1 by omega, show s % 10 = s - 10 by omega, List.set_comm 1 (s - 10) (show k + 1 ≠ k by omega)]
    exact hs.2 (by omega)

set_option maxRecDepth 100000 in
set_option maxHeartbeats 4000000 in
theorem plus2_ref (va vb : Value) (xs ys : List Int) (w : World) (hx : xs.length ≤ 900) (hy : ys.length ≤ 900) (hva : Arr w va xs) (hvb : Arr w vb ys) (dx : Dc.Dig xs) (dy : Dc.Dig ys) :
    Calls Tryz.prog 151 #[va, vb] w fun e w' => SumPost (Dc.val xs + Dc.val ys) (max xs.length ys.length + 1) w e w' := by
  obtain ⟨i0, hi, hz0, hz1, hz2⟩ := info_parts info3
  obtain ⟨xa, capa, rfl, hoa⟩ := arr_open hva
  obtain ⟨xb, capb, rfl, hob⟩ := arr_open hvb
  obtain ⟨la, hla⟩ : ∃ la, xs.length = la := ⟨_, rfl⟩
  obtain ⟨lb, hlb⟩ : ∃ lb, ys.length = lb := ⟨_, rfl⟩
  rw [hla] at hx hoa ⊢
  rw [hlb] at hy hob ⊢
  have HLA := hide hla
  have HLB := hide hlb
  have HOA := hide hoa
  have HOB := hide hob
  have HDX := hide (And.intro dx dy)
  clear hva hvb hla hlb hoa hob dx dy
  obtain ⟨n, hn⟩ : ∃ n, max la lb = n := ⟨_, rfl⟩
  rw [hn]
  have hna : la ≤ n := by omega
  have hnb : lb ≤ n := by omega
  have hn9 : n ≤ 900 := by omega
  have HN := hide hn
  clear hn
  go_enter Tryz.func151, Tryz.ntmps151
  go_upto_if 13 with fail
  go_cut [5] from 14 (fun t wx => t = .int .i64 (n : Int) ∧ wx = w)
  case first =>
    by_cases hll : la < lb
    · have e : Hid (n = lb) := hide (by have := unhide HN; omega)
      go_wp2
      go_meet
      case rel => exact ⟨by rw [unhide e], rfl⟩
    · have e : Hid (n = la) := hide (by have := unhide HN; omega)
      go_wp2
      go_meet
      case rel => exact ⟨by rw [unhide e], rfl⟩
  case rest =>
    obtain ⟨rfl, rfl⟩ := hcut
    go_wp2_with (first
      | (at_make; refine wpList_make_full _ rfl _ _ 49 rfl wc.heap.size 3 i0 (.int .i64 0) 1 Tryz.underlying49 hi hz0 hz1 _ _ _ _ (n + 1) rfl rfl (by omega) (by omega) (by rw [hz2]; omega) (by unfold maxLen; omega) (Nat.le_refl _) ?_)
      | go_in)
    intro w1 hown hgrow
    have HB : Hid (Below wc.heap.size wc w1) := hide ((Below.refl _ _).grown hgrow (Nat.le_refl _) (fun k hk => by cases hk))
    have HO : Hid (w1.ownsRow wc.heap.size 3 1 (.slice (some ⟨wc.heap.size, 0, none⟩) (n + 1) (n + 1)) (n + 1) ((List.replicate (n + 1) (0 : Int)).map (Value.int .i64))) := hide (by
      have := made_map (n + 1)
      rw [Nat.mul_one] at this
      rw [← this]; exact hown)
    clear hown hgrow hi hz0 hz1 hz2
    go_wp2
    go_loopw [7] (fun t wr => ∃ (k : Nat) (os : List Int), t = .int .i64 (k : Int) ∧ k ≤ n ∧ Hid (wr.ownsRow wc.heap.size 3 1 (.slice (some ⟨wc.heap.size, 0, none⟩) (n + 1) (n + 1)) (n + 1) (os.map (Value.int .i64))) ∧ Hid (Below wc.heap.size wc wr) ∧ Hid (PlusInv xs ys os n k)) (fun t _ => n - (intOf t).toNat)
    case atStart => exact ⟨0, _, rfl, Nat.zero_le _, HO, HB, hide (plus_start xs ys n)⟩
    case round =>
      clear HO HB
      obtain ⟨k, os, rfl, hk, HO, HB, HI⟩ := hrel
      by_cases hkn : k < n
      · have c0 := owns_cell (unhide HO) k (by omega)
        have c1 := owns_cell (unhide HO) (k + 1) (by omega)
        have f0 := (unhide HO).frozenAt k
        have f1 := (unhide HO).frozenAt (k + 1)
        have e1 : os.getD (k + 1) 0 = 0 := (unhide HI).high (k + 1) (by omega)
        have m0 := (unhide HI).mid
        have sx := (unhide HDX).1.getD k
        have sy := (unhide HDX).2.getD k
        have PS := plus_step2 xs ys os n k hkn (unhide HDX).1 (unhide HDX).2 (unhide HI)
        have z1 := (unhide HB).size
        rw [e1] at c1
        obtain ⟨p, hp⟩ : ∃ p, os.getD k 0 = p := ⟨_, rfl⟩
        obtain ⟨x, hx0⟩ : ∃ x, xs.getD k 0 = x := ⟨_, rfl⟩
        obtain ⟨y, hy0⟩ : ∃ y, ys.getD k 0 = y := ⟨_, rfl⟩
        rw [hp] at c0 m0 PS
        rw [hx0] at sx PS
        rw [hy0] at sy PS
        have HP := hide hp
        have HX := hide hx0
        have HY := hide hy0
        have PS := hide PS
        have HE1 := hide e1
        clear hp hx0 hy0 e1
        obtain ⟨m1, m2⟩ := m0
        obtain ⟨x1, x2⟩ := sx
        obtain ⟨y1, y2⟩ := sy
        have hlen : k < os.length := by rw [(unhide HI).len]; omega
        have hlen1 : k + 1 < os.length := by rw [(unhide HI).len]; omega
        by_cases hka : k < la
        · obtain ⟨ba, oa, rfl, ba1, ca⟩ := unhide HOA (by omega)
          have ca := ca k hka
          rw [unhide HX, ← (unhide HB).cell (p := ⟨ba, oa + k, none⟩) ba1] at ca
          go_wp2
          go_region
          obtain ⟨w2, ew2⟩ : ∃ w2, (wr.setCell ⟨wc.heap.size, k, none⟩ (.int .i64 (p + x))).drew = w2 := ⟨_, rfl⟩
          rw [ew2]
          obtain ⟨c0', c1', f0', f1', HO', HB'⟩ := plus_world (unhide HO) (unhide HB) hlen1 (unhide HE1) ew2.symm
          clear c0 c1 f0 f1 ew2 ca
          by_cases hkb : k < lb
          · obtain ⟨bb, ob, rfl, bb1, cb⟩ := unhide HOB (by omega)
            have cb := cb k hkb
            rw [unhide HY, ← (unhide HB').cell (p := ⟨bb, ob + k, none⟩) bb1] at cb
            go_wp2
            go_region
            obtain ⟨w3, ew3⟩ : ∃ w3, (w2.setCell ⟨wc.heap.size, k, none⟩ (.int .i64 (p + x + y))).drew = w3 := ⟨_, rfl⟩
            rw [ew3]
            obtain ⟨c0, c1, f0, f1, HO3, HB3⟩ := plus_world (unhide HO') (unhide HB') (by simpa using hlen1) (by rw [Dc.getD_set _ _ _ _ hlen, if_neg (by omega)]; exact unhide HE1) ew3.symm
            rw [List.set_set] at HO3
            clear c0' c1' f0' f1' ew3 cb
            have HO4 : Hid (((w3.setCell ⟨wc.heap.size, k + 1, none⟩ (.int .i64 ((p + x + y) / 10))).setCell ⟨wc.heap.size, k, none⟩ (.int .i64 ((p + x + y) % 10))).ownsRow wc.heap.size 3 1 (.slice (some ⟨wc.heap.size, 0, none⟩) (n + 1) (n + 1)) (n + 1) (((os.set (k + 1) ((p + x + y) / 10)).set k ((p + x + y) % 10)).map (Value.int .i64))) := hide (by
              have := owns_set (owns_set (unhide HO3) (k + 1) ((p + x + y) / 10)) k ((p + x + y) % 10)
              rw [set_swap] at this
              exact this)
            have HB4 := hide (((unhide HB3).setCell (p := ⟨wc.heap.size, k + 1, none⟩) (Nat.le_refl _) (.int .i64 ((p + x + y) / 10))).setCell (p := ⟨wc.heap.size, k, none⟩) (Nat.le_refl _) (.int .i64 ((p + x + y) % 10)))
            have PD : Hid (PlusInv xs ys ((os.set (k + 1) ((p + x + y) / 10)).set k ((p + x + y) % 10)) n (k + 1)) := hide (by exact unhide PS)
            go_wp2
            go_roundw
            case rel => exact ⟨k + 1, _, by go_num, by omega, HO4, HB4, PD⟩
            case measure => simp [intOf]; omega
          · have hy0 : y = 0 := by rw [← unhide HY, List.getD_eq_getElem?_getD, List.getElem?_eq_none (by have := unhide HLB; omega)]; rfl
            have ev : p + x + y = p + x := by omega
            have EV := hide ev
            have HO3 := HO'
            have HB3 := HB'
            clear ev hy0
            have HO4 : Hid (((w2.setCell ⟨wc.heap.size, k + 1, none⟩ (.int .i64 ((p + x) / 10))).setCell ⟨wc.heap.size, k, none⟩ (.int .i64 ((p + x) % 10))).ownsRow wc.heap.size 3 1 (.slice (some ⟨wc.heap.size, 0, none⟩) (n + 1) (n + 1)) (n + 1) (((os.set (k + 1) ((p + x) / 10)).set k ((p + x) % 10)).map (Value.int .i64))) := hide (by
              have := owns_set (owns_set (unhide HO3) (k + 1) ((p + x) / 10)) k ((p + x) % 10)
              rw [set_swap] at this
              exact this)
            have HB4 := hide (((unhide HB3).setCell (p := ⟨wc.heap.size, k + 1, none⟩) (Nat.le_refl _) (.int .i64 ((p + x) / 10))).setCell (p := ⟨wc.heap.size, k, none⟩) (Nat.le_refl _) (.int .i64 ((p + x) % 10)))
            have PD : Hid (PlusInv xs ys ((os.set (k + 1) ((p + x) / 10)).set k ((p + x) % 10)) n (k + 1)) := hide (by rw [← unhide EV]; exact unhide PS)
            go_wp2
            go_roundw
            case rel => exact ⟨k + 1, _, by go_num, by omega, HO4, HB4, PD⟩
            case measure => simp [intOf]; omega
        · have hx0 : x = 0 := by rw [← unhide HX, List.getD_eq_getElem?_getD, List.getElem?_eq_none (by have := unhide HLA; omega)]; rfl
          have hkb : k < lb := by have := unhide HN; omega
          have ev : p + x + y = p + y := by omega
          have EV := hide ev
          clear ev hx0
          obtain ⟨bb, ob, rfl, bb1, cb⟩ := unhide HOB (by omega)
          have cb := cb k hkb
          rw [unhide HY, ← (unhide HB).cell (p := ⟨bb, ob + k, none⟩) bb1] at cb
          go_wp2
          go_region
          obtain ⟨w3, ew3⟩ : ∃ w3, (wr.setCell ⟨wc.heap.size, k, none⟩ (.int .i64 (p + y))).drew = w3 := ⟨_, rfl⟩
          rw [ew3]
          obtain ⟨c0', c1', f0', f1', HO3, HB3⟩ := plus_world (unhide HO) (unhide HB) hlen1 (unhide HE1) ew3.symm
          clear c0 c1 f0 f1 ew3 cb
          have HO4 : Hid (((w3.setCell ⟨wc.heap.size, k + 1, none⟩ (.int .i64 ((p + y) / 10))).setCell ⟨wc.heap.size, k, none⟩ (.int .i64 ((p + y) % 10))).ownsRow wc.heap.size 3 1 (.slice (some ⟨wc.heap.size, 0, none⟩) (n + 1) (n + 1)) (n + 1) (((os.set (k + 1) ((p + y) / 10)).set k ((p + y) % 10)).map (Value.int .i64))) := hide (by
            have := owns_set (owns_set (unhide HO3) (k + 1) ((p + y) / 10)) k ((p + y) % 10)
            rw [set_swap] at this
            exact this)
          have HB4 := hide (((unhide HB3).setCell (p := ⟨wc.heap.size, k + 1, none⟩) (Nat.le_refl _) (.int .i64 ((p + y) / 10))).setCell (p := ⟨wc.heap.size, k, none⟩) (Nat.le_refl _) (.int .i64 ((p + y) % 10)))
          have PD : Hid (PlusInv xs ys ((os.set (k + 1) ((p + y) / 10)).set k ((p + y) % 10)) n (k + 1)) := hide (by rw [← unhide EV]; exact unhide PS)
          go_wp2
          go_roundw
          case rel => exact ⟨k + 1, _, by go_num, by omega, HO4, HB4, PD⟩
          case measure => simp [intOf]; omega
      · have hkn' : k = n := by omega
        subst hkn'
        obtain ⟨d1, d2⟩ := plus_end xs ys os k (unhide HI) (by have := unhide HLA; omega) (by have := unhide HLB; omega)
        have hol : os.length = k + 1 := (unhide HI).len
        have hz : ∀ i, k + 1 ≤ i → os.getD i 0 = 0 := fun i hi => by rw [List.getD_eq_getElem?_getD, List.getElem?_eq_none (by omega)]; rfl
        have HD := hide (And.intro d1 (And.intro d2 (And.intro hol hz)))
        have c0 := owns_cell (unhide HO) k (by omega)
        obtain ⟨t, ht⟩ : ∃ t, os.getD k 0 = t := ⟨_, rfl⟩
        rw [ht] at c0
        have HT := hide ht
        have HBL : Hid (wc.heap.size < wr.heap.size) := hide (owns_lt (unhide HO))
        have HCL : Hid (∀ i, i < os.length → wr.cell? ⟨wc.heap.size, 0 + i, none⟩ = some (.int .i64 (os.getD i 0))) := hide (fun i hi => by
          rw [Nat.zero_add]; exact owns_cell (unhide HO) i (by omega))
        clear d1 d2 hol ht hz
        by_cases ht0 : t = 0
        · subst ht0
          go_wp2
          go_ret
          obtain ⟨d1, d2, hol, hz⟩ := unhide HD
          exact ⟨unhide HB, .slice (some ⟨wc.heap.size, 0, none⟩) k (k + 1), os.take k, rfl, arr_take (by omega) (by omega) (unhide HBL) (unhide HCL), d1.take k, by
            rw [Dc.val_cut os k (fun i hi => by
              rcases Nat.lt_or_ge k i with h | h
              · exact hz i h
              · have : i = k := by omega
                rw [this]; exact unhide HT)]; exact d2, by rw [List.length_take]; omega⟩
        · have htb : (t == 0) = false := by rw [beq_eq_false_iff_ne]; exact ht0
          have HT0 := hide ht0
          clear ht0
          go_wp2
          go_ret
          obtain ⟨d1, d2, hol, hz⟩ := unhide HD
          exact ⟨unhide HB, .slice (some ⟨wc.heap.size, 0, none⟩) (k + 1) (k + 1), os, rfl, arr_of_owns hol.symm (unhide HO), d1, d2, by omega⟩
end Go.Proofs.YtbeijnflfmjgfaaGreatDoor

namespace Go.Proofs.YtbeijnflfmjgfaaGreatDoor.Fl
open Ieee

theorem sw : double.signWeight = 9223372036854775808 := by decide
theorem bn : double.binade = 4503599627370496 := by decide
theorem ir : double.infRung = 9218868437227405312 := by decide
theorem lp : double.leastPlace = -1074 := by decide
theorem fb : double.fractionBits = 52 := rfl

def sgn (b : Nat) : Bool := b / 9223372036854775808 % 2 == 1
def rng (b : Nat) : Nat := b % 9223372036854775808
def mg (r : Nat) : Nat := if r < 4503599627370496 then r else (4503599627370496 + r % 4503599627370496) * 2 ^ (r / 4503599627370496 - 1)
def sg (s : Bool) (x : Nat) : Int := if s then -(x : Int) else x
def kv (b : Nat) : Int := sg (sgn b) (rng b)

def mm (r : Nat) : Nat := if r < 4503599627370496 then r else 4503599627370496 + r % 4503599627370496
def mk (r : Nat) : Nat := r / 4503599627370496 - 1
theorem mg_eq (r : Nat) : mg r = mm r * 2 ^ mk r := by
  unfold mg mm mk
  split
  · rename_i h
    rw [Nat.div_eq_of_lt h]; simp
  · rfl

theorem read_fin (b : Nat) (h : rng b < 9218868437227405312) : double.read b = .number (sgn b) (mm (rng b)) (-1074 + (mk (rng b) : Int)) := by
  unfold Format.read
  rw [sw, bn, ir, lp]
  show (if rng b < 4503599627370496 then Datum.number (sgn b) (rng b) (-1074) else _) = _
  unfold mm mk
  split
  · rename_i h1
    rw [Nat.div_eq_of_lt h1]; rfl
  · rename_i h1
    rw [if_pos (by exact h)]; rfl
theorem read_inf (b : Nat) (h : rng b = 9218868437227405312) : double.read b = .infinity (sgn b) := by
  unfold Format.read
  rw [sw, bn, ir, lp]
  show (if rng b < 4503599627370496 then _ else if rng b < 9218868437227405312 then _ else if rng b = 9218868437227405312 then Datum.infinity (sgn b) else _) = _
  rw [if_neg (by omega), if_neg (by omega), if_pos h]
theorem read_nan (b : Nat) (h : 9218868437227405312 < rng b) : ∃ s t, double.read b = .nan s t := by
  unfold Format.read
  rw [sw, bn, ir, lp]
  refine ⟨sgn b, rng b - 9218868437227405312, ?_⟩
  show (if rng b < 4503599627370496 then _ else if rng b < 9218868437227405312 then _ else if rng b = 9218868437227405312 then _ else Datum.nan (sgn b) (rng b - 9218868437227405312)) = _
  rw [if_neg (by omega), if_neg (by omega), if_neg (by omega)]

theorem flcmp_lt (a b : Int) : (compare a b = .lt) ↔ a < b := by
  show compareOfLessAndEq a b = .lt ↔ _
  unfold compareOfLessAndEq
  split
  · simp [*]
  · split <;> simp [*]
theorem cmp_eq (a b : Int) : (compare a b = .eq) ↔ a = b := by
  show compareOfLessAndEq a b = .eq ↔ _
  unfold compareOfLessAndEq
  split
  · simp; omega
  · split <;> simp [*]
theorem cmp_gt (a b : Int) : (compare a b = .gt) ↔ b < a := by
  show compareOfLessAndEq a b = .gt ↔ _
  unfold compareOfLessAndEq
  split
  · simp; omega
  · split
    · simp [*]
    · simp; omega
theorem cmp_same {a b c d : Int} (h1 : a < b ↔ c < d) (h2 : a = b ↔ c = d) : compare a b = compare c d := by
  show compareOfLessAndEq a b = compareOfLessAndEq c d
  unfold compareOfLessAndEq
  simp only [h1, h2]

theorem mm_lt (r : Nat) : mm r < 9007199254740992 := by
  unfold mm; split
  · omega
  · have := Nat.mod_lt r (show 0 < 4503599627370496 by omega); omega
theorem mm_ge (r : Nat) (h : 4503599627370496 ≤ r) : 4503599627370496 ≤ mm r := by
  unfold mm; rw [if_neg (by omega)]; omega
theorem mg_lt {r s : Nat} (h : r < s) : mg r < mg s := by
  rw [mg_eq, mg_eq]
  by_cases h1 : s < 4503599627370496
  · have e1 : mk r = 0 := by unfold mk; rw [Nat.div_eq_of_lt (by omega)]
    have e2 : mk s = 0 := by unfold mk; rw [Nat.div_eq_of_lt (by omega)]
    rw [e1, e2]; unfold mm; rw [if_pos (by omega), if_pos h1]; omega
  · have hs := mm_ge s (by omega)
    have ps : 0 < 2 ^ mk s := Nat.two_pow_pos _
    by_cases h2 : r < 4503599627370496
    · have e1 : mk r = 0 := by unfold mk; rw [Nat.div_eq_of_lt (by omega)]
      rw [e1, Nat.pow_zero, Nat.mul_one]
      have : mm r = r := by unfold mm; rw [if_pos h2]
      rw [this]
      have : mm s * 1 ≤ mm s * 2 ^ mk s := Nat.mul_le_mul_left _ ps
      omega
    · have hr : mm r < 9007199254740992 := mm_lt r
      rcases Nat.lt_or_ge (mk r) (mk s) with h3 | h3
      · obtain ⟨c, hc⟩ := Nat.exists_eq_add_of_lt h3
        rw [hc, show mk r + c + 1 = 1 + c + mk r by omega, Nat.pow_add, ← Nat.mul_assoc]
        refine Nat.mul_lt_mul_of_pos_right ?_ (Nat.two_pow_pos _)
        rw [Nat.pow_add, Nat.pow_one]
        have : mm s * 2 * 1 ≤ mm s * 2 * 2 ^ c := Nat.mul_le_mul_left _ (Nat.two_pow_pos _)
        rw [← Nat.mul_assoc]; omega
      · have e : mk r = mk s := by
          have : r / 4503599627370496 ≤ s / 4503599627370496 := Nat.div_le_div_right (by omega)
          unfold mk at h3 ⊢; omega
        rw [e]
        refine Nat.mul_lt_mul_of_pos_right ?_ ps
        have e1 : r / 4503599627370496 = s / 4503599627370496 := by
          unfold mk at e; omega
        unfold mm; rw [if_neg h2, if_neg h1]
        omega
theorem mg_le {r s : Nat} (h : r ≤ s) : mg r ≤ mg s := by
  rcases Nat.lt_or_ge r s with h1 | h1
  · exact Nat.le_of_lt (mg_lt h1)
  · have : r = s := by omega
    rw [this]; exact Nat.le_refl _
theorem mg_lt_iff (r s : Nat) : mg r < mg s ↔ r < s := by
  refine ⟨fun h => ?_, mg_lt⟩
  rcases Nat.lt_or_ge r s with h1 | h1
  · exact h1
  · have := mg_le h1; omega
theorem mg_inj {r s : Nat} (h : mg r = mg s) : r = s := by
  rcases Nat.lt_trichotomy r s with h1 | h1 | h1
  · have := mg_lt h1; omega
  · exact h1
  · have := mg_lt h1; omega
theorem mg_zero : mg 0 = 0 := by decide
theorem mg_pos {r : Nat} (h : 0 < r) : 0 < mg r := by have := mg_lt h; rw [mg_zero] at this; exact this

theorem sg_cmp (s t : Bool) (a b c d : Nat) (h2 : a = b ↔ c = d) (h3 : b < a ↔ d < c) (h4 : a = 0 ↔ c = 0) (h5 : b = 0 ↔ d = 0) : compare (sg s a) (sg t b) = compare (sg s c) (sg t d) := by
  cases s <;> cases t <;> refine cmp_same ?_ ?_ <;> simp only [sg] <;> simp only [Bool.false_eq_true, if_false, if_true] <;> omega

theorem order_num (s t : Bool) (m n k l : Nat) : Datum.order (.number s m (-1074 + (k : Int))) (.number t n (-1074 + (l : Int))) = some (compare (sg s (m * 2 ^ k)) (sg t (n * 2 ^ l))) := by
  show some (compare (signed s m ((-1074 + (k : Int)) - min (-1074 + (k : Int)) (-1074 + (l : Int))).toNat) (signed t n ((-1074 + (l : Int)) - min (-1074 + (k : Int)) (-1074 + (l : Int))).toNat)) = _
  have hs : ∀ (s : Bool) (m a : Nat), signed s m a = sg s (m * 2 ^ a) := by
    intro s m a; unfold signed sg; rw [Nat.shiftLeft_eq]
  have e1 : ((-1074 + (k : Int)) - min (-1074 + (k : Int)) (-1074 + (l : Int))).toNat = k - min k l := by omega
  have e2 : ((-1074 + (l : Int)) - min (-1074 + (k : Int)) (-1074 + (l : Int))).toNat = l - min k l := by omega
  rw [e1, e2, hs, hs]
  have p : 0 < 2 ^ min k l := Nat.two_pow_pos _
  have f1 : m * 2 ^ k = m * 2 ^ (k - min k l) * 2 ^ min k l := by rw [Nat.mul_assoc, ← Nat.pow_add, Nat.sub_add_cancel (Nat.min_le_left _ _)]
  have f2 : n * 2 ^ l = n * 2 ^ (l - min k l) * 2 ^ min k l := by rw [Nat.mul_assoc, ← Nat.pow_add, Nat.sub_add_cancel (Nat.min_le_right _ _)]
  rw [f1, f2]
  generalize m * 2 ^ (k - min k l) = x
  generalize n * 2 ^ (l - min k l) = y
  generalize 2 ^ min k l = q at *
  refine congrArg some (sg_cmp s t _ _ _ _ ?_ ?_ ?_ ?_)
  · exact ⟨fun h => by rw [h], fun h => Nat.eq_of_mul_eq_mul_right p h⟩
  · exact (Nat.mul_lt_mul_right p).symm
  · constructor
    · intro h; rw [h, Nat.zero_mul]
    · intro h; rcases Nat.mul_eq_zero.1 h with h | h <;> omega
  · constructor
    · intro h; rw [h, Nat.zero_mul]
    · intro h; rcases Nat.mul_eq_zero.1 h with h | h <;> omega

theorem order_key (x y : Nat) (hx : rng x ≤ 9218868437227405312) (hy : rng y ≤ 9218868437227405312) : double.order x y = some (compare (kv x) (kv y)) := by
  unfold Format.order kv
  rcases Nat.lt_or_eq_of_le hx with h1 | h1 <;> rcases Nat.lt_or_eq_of_le hy with h2 | h2
  · rw [read_fin x h1, read_fin y h2, order_num, ← mg_eq, ← mg_eq]
    refine congrArg some (sg_cmp _ _ _ _ _ _ ⟨mg_inj, fun h => by rw [h]⟩ (mg_lt_iff _ _) ?_ ?_)
    · exact ⟨fun h => mg_inj (by rw [h, mg_zero]), fun h => by rw [h, mg_zero]⟩
    · exact ⟨fun h => mg_inj (by rw [h, mg_zero]), fun h => by rw [h, mg_zero]⟩
  · rw [read_fin x h1, read_inf y h2, h2]
    show some (if sgn y then Ordering.gt else .lt) = _
    refine congrArg some ?_
    cases hs : sgn y
    · refine ((flcmp_lt _ _).2 ?_).symm
      cases hx' : sgn x <;> cases hy' : sgn y <;> simp_all [sg] <;> omega
    · refine ((cmp_gt _ _).2 ?_).symm
      cases hx' : sgn x <;> cases hy' : sgn y <;> simp_all [sg] <;> omega
  · rw [read_inf x h1, read_fin y h2, h1]
    show some (if sgn x then Ordering.lt else .gt) = _
    refine congrArg some ?_
    cases hs : sgn x
    · refine ((cmp_gt _ _).2 ?_).symm
      cases hx' : sgn x <;> cases hy' : sgn y <;> simp_all [sg] <;> omega
    · refine ((flcmp_lt _ _).2 ?_).symm
      cases hx' : sgn x <;> cases hy' : sgn y <;> simp_all [sg] <;> omega
  · rw [read_inf x h1, read_inf y h2, h1, h2]
    show some (compare (sgn y).toNat (sgn x).toNat) = _
    cases sgn x <;> cases sgn y <;> decide
theorem order_nan_l (x y : Nat) (hx : 9218868437227405312 < rng x) : double.order x y = none := by
  unfold Format.order
  obtain ⟨s, t, e⟩ := read_nan x hx
  rw [e]; rfl
theorem some_beq (a b : Ordering) : (some a == some b) = decide (a = b) := by cases a <;> cases b <;> rfl
theorem key_lt (x y : Nat) (hx : rng x ≤ 9218868437227405312) (hy : rng y ≤ 9218868437227405312) : (double.order x y == some .lt) = decide (kv x < kv y) := by
  rw [order_key x y hx hy, some_beq]; exact decide_eq_decide.2 (flcmp_lt _ _)
theorem key_gt (x y : Nat) (hx : rng x ≤ 9218868437227405312) (hy : rng y ≤ 9218868437227405312) : (double.order x y == some .gt) = decide (kv y < kv x) := by
  rw [order_key x y hx hy, some_beq]; exact decide_eq_decide.2 (cmp_gt _ _)
theorem key_eq (x y : Nat) (hx : rng x ≤ 9218868437227405312) (hy : rng y ≤ 9218868437227405312) : (double.order x y == some .eq) = decide (kv x = kv y) := by
  rw [order_key x y hx hy, some_beq]; exact decide_eq_decide.2 (cmp_eq _ _)
end Go.Proofs.YtbeijnflfmjgfaaGreatDoor.Fl

namespace Go.Proofs.YtbeijnflfmjgfaaGreatDoor
open Go.RowKit

def clsV (b : Nat) : Int :=
  if 9218868437227405312 < Fl.rng b then 0 else if Fl.rng b = 9218868437227405312 then (if Fl.sgn b = true then 1 else 6)
    else if Fl.rng b = 0 then (if Fl.sgn b = true then 3 else 4) else if Fl.sgn b = true then 2 else 5

theorem f64_format : FloatKind.f64.format = Ieee.double := rfl
theorem word_eq (b : Nat) (h : b < 18446744073709551616) : b = (if Fl.sgn b = true then 9223372036854775808 + Fl.rng b else Fl.rng b) := by
  unfold Fl.sgn Fl.rng
  by_cases h1 : b < 9223372036854775808
  · rw [Nat.div_eq_of_lt h1, Nat.mod_eq_of_lt h1]; rfl
  · have e : b / 9223372036854775808 = 1 := by omega
    rw [e]; simp; omega
theorem nan_ne (b : Nat) (h : 9218868437227405312 < Fl.rng b) (c : Nat) (o : Ordering) : (FloatKind.f64.format.order b c == some o) = false := by
  rw [f64_format, Fl.order_nan_l b c h]; rfl
theorem kv_max : Fl.kv 9218868437227405311 = 9218868437227405311 := by decide
theorem kv_min : Fl.kv 18442240474082181119 = -9218868437227405311 := by decide
theorem kv_zero : Fl.kv 0 = 0 := by decide
theorem kv_pos {b : Nat} (h : Fl.sgn b = false) : Fl.kv b = (Fl.rng b : Int) := by unfold Fl.kv Fl.sg; rw [h]; rfl
theorem kv_neg {b : Nat} (h : Fl.sgn b = true) : Fl.kv b = -(Fl.rng b : Int) := by unfold Fl.kv Fl.sg; rw [h]; rfl
theorem self_eq (b : Nat) (h : Fl.rng b ≤ 9218868437227405312) : (FloatKind.f64.format.order b b != some .eq) = false := by
  unfold bne; rw [f64_format, Fl.key_eq b b h h]; simp
theorem self_ne (b : Nat) (h : 9218868437227405312 < Fl.rng b) : (FloatKind.f64.format.order b b != some .eq) = true := by
  unfold bne; rw [nan_ne b h]; rfl
theorem below_min (b : Nat) (h : Fl.rng b ≤ 9218868437227405312) : (FloatKind.f64.format.order b 18442240474082181119 == some .lt) = decide (Fl.kv b < -9218868437227405311) := by
  rw [f64_format, Fl.key_lt b _ h (by decide), kv_min]
theorem above_max (b : Nat) (h : Fl.rng b ≤ 9218868437227405312) : (FloatKind.f64.format.order b 9218868437227405311 == some .gt) = decide (9218868437227405311 < Fl.kv b) := by
  rw [f64_format, Fl.key_gt b _ h (by decide), kv_max]
theorem below_zero (b : Nat) (h : Fl.rng b ≤ 9218868437227405312) : (FloatKind.f64.format.order b 0 == some .lt) = decide (Fl.kv b < 0) := by
  rw [f64_format, Fl.key_lt b _ h (by decide), kv_zero]
theorem above_zero (b : Nat) (h : Fl.rng b ≤ 9218868437227405312) : (FloatKind.f64.format.order b 0 == some .gt) = decide (0 < Fl.kv b) := by
  rw [f64_format, Fl.key_gt b _ h (by decide), kv_zero]

set_option maxHeartbeats 400000 in
theorem clsof_any (b : Nat) (w : World) (hb : b < 18446744073709551616) :
    Calls Tryz.prog 142 #[.float .f64 b] w fun e w' => e = .returned (.int .i64 (clsV b)) ∧ w' = w := by
  unfold clsV
  by_cases h1 : 9218868437227405312 < Fl.rng b
  · rw [if_pos h1]
    have e1 := self_ne b h1
    clear h1 hb
    go_enter Tryz.func142, Tryz.ntmps142
    go_wp2
    go_ret
    exact ⟨rfl, rfl⟩
  · rw [if_neg h1]
    have h2 : Fl.rng b ≤ 9218868437227405312 := by omega
    have e1 := self_eq b h2
    have e2 := below_min b h2
    have e3 := above_max b h2
    have e4 := below_zero b h2
    have e5 := above_zero b h2
    have hw := word_eq b hb
    cases hs : Fl.sgn b
    · rw [kv_pos hs] at e2 e3 e4 e5
      rw [hs] at hw
      by_cases h3 : Fl.rng b = 9218868437227405312
      · rw [h3] at e2 e3 e4 e5
        rw [if_pos h3]
        clear h1 h2 hw hs h3 hb
        go_enter Tryz.func142, Tryz.ntmps142
        go_wp2
        go_ret
        exact ⟨rfl, rfl⟩
      · rw [if_neg h3]
        by_cases h4 : Fl.rng b = 0
        · rw [if_pos h4]
          have hb0 : b = 0 := by rw [h4] at hw; exact hw
          subst hb0
          have e6 := run_float_arith (P := Tryz.prog) w .quo 119 .f64 4607182418800017408 0 9218868437227405312 (by decide +kernel)
          have e7 : (FloatKind.f64.format.order 9218868437227405312 0 == some .lt) = false := by decide +kernel
          rw [h4] at e2 e3 e4 e5
          clear h1 h2 hw hs h3 hb h4
          go_enter Tryz.func142, Tryz.ntmps142
          go_wp2
          go_ret
          exact ⟨rfl, rfl⟩
        · rw [if_neg h4]
          have d2 : decide ((Fl.rng b : Int) < -9218868437227405311) = false := by rw [decide_eq_false_iff_not]; omega
          have d3 : decide (9218868437227405311 < (Fl.rng b : Int)) = false := by rw [decide_eq_false_iff_not]; omega
          have d4 : decide ((Fl.rng b : Int) < 0) = false := by rw [decide_eq_false_iff_not]; omega
          have d5 : decide (0 < (Fl.rng b : Int)) = true := by rw [decide_eq_true_iff]; omega
          rw [d2] at e2
          rw [d3] at e3
          rw [d4] at e4
          rw [d5] at e5
          clear d2 d3 d4 d5 h1 h2 hw hs h3 hb h4
          go_enter Tryz.func142, Tryz.ntmps142
          go_wp2
          go_ret
          exact ⟨rfl, rfl⟩
    · rw [kv_neg hs] at e2 e3 e4 e5
      rw [hs] at hw
      by_cases h3 : Fl.rng b = 9218868437227405312
      · rw [h3] at e2 e3 e4 e5
        rw [if_pos h3]
        clear h1 h2 hw hs h3 hb
        go_enter Tryz.func142, Tryz.ntmps142
        go_wp2
        go_ret
        exact ⟨rfl, rfl⟩
      · rw [if_neg h3]
        by_cases h4 : Fl.rng b = 0
        · rw [if_pos h4]
          have hb0 : b = 9223372036854775808 := by rw [h4] at hw; exact hw
          subst hb0
          have e6 := run_float_arith (P := Tryz.prog) w .quo 119 .f64 4607182418800017408 9223372036854775808 18442240474082181120 (by decide +kernel)
          have e7 : (FloatKind.f64.format.order 18442240474082181120 0 == some .lt) = true := by decide +kernel
          rw [h4] at e2 e3 e4 e5
          clear h1 h2 hw hs h3 hb h4
          go_enter Tryz.func142, Tryz.ntmps142
          go_wp2
          go_ret
          exact ⟨rfl, rfl⟩
        · rw [if_neg h4]
          have d2 : decide (-(Fl.rng b : Int) < -9218868437227405311) = false := by rw [decide_eq_false_iff_not]; omega
          have d3 : decide (9218868437227405311 < -(Fl.rng b : Int)) = false := by rw [decide_eq_false_iff_not]; omega
          have d4 : decide (-(Fl.rng b : Int) < 0) = true := by rw [decide_eq_true_iff]; omega
          rw [d2] at e2
          rw [d3] at e3
          rw [d4] at e4
          clear d2 d3 d4 e5 h1 h2 hw hs h3 hb h4
          go_enter Tryz.func142, Tryz.ntmps142
          go_wp2
          go_ret
          exact ⟨rfl, rfl⟩
end Go.Proofs.YtbeijnflfmjgfaaGreatDoor

namespace Go.Proofs.YtbeijnflfmjgfaaGreatDoor
open Go.RowKit

theorem word_split (b : Nat) (hb : b < 18446744073709551616) : (b : Int) % 9223372036854775808 = (Fl.rng b : Int) ∧ (b : Int) / 9223372036854775808 = (if Fl.sgn b = true then 1 else 0) ∧ Fl.rng b < 9223372036854775808 := by
  refine ⟨by unfold Fl.rng; omega, ?_, by unfold Fl.rng; omega⟩
  unfold Fl.sgn
  by_cases h : b < 9223372036854775808
  · rw [Nat.div_eq_of_lt h]; simp; omega
  · rw [show b / 9223372036854775808 = 1 by omega]; simp; omega

set_option maxHeartbeats 1000000 in
theorem class_ref (b : Nat) (w : World) (hb : b < 18446744073709551616) :
    Calls Tryz.prog 147 #[.int .u64 (b : Int)] w fun e w' => e = .returned (.int .i64 (clsV b)) ∧ w' = w := by
  obtain ⟨e1, e2, e3⟩ := word_split b hb
  unfold clsV
  generalize Fl.rng b = r at *
  have hb1 : (b : Int) < 18446744073709551616 := by omega
  have hb0 : 0 ≤ (b : Int) := by omega
  generalize (b : Int) = bi at *
  by_cases h1 : 9218868437227405312 < r
  · rw [if_pos h1]
    have h1' : 9218868437227405312 < (r : Int) := by omega
    generalize (r : Int) = ri at *
    clear h1 e3 hb e2
    go_enter Tryz.func147, Tryz.ntmps147
    go_wp2
    go_ret
    exact ⟨rfl, rfl⟩
  · rw [if_neg h1]
    have d1 : ¬ 9218868437227405312 < (r : Int) := by omega
    by_cases h2 : r = 9218868437227405312
    · rw [if_pos h2]
      have hr : (r : Int) = 9218868437227405312 := by omega
      rw [hr] at e1
      clear hr d1 h1 h2 e3 hb
      cases hs : Fl.sgn b
      · rw [hs] at e2
        clear hs
        simp only [Bool.false_eq_true, if_false] at e2
        go_enter Tryz.func147, Tryz.ntmps147
        go_wp2
        go_ret
        exact ⟨rfl, rfl⟩
      · rw [hs] at e2
        clear hs
        simp only [if_true] at e2
        go_enter Tryz.func147, Tryz.ntmps147
        go_wp2
        go_ret
        exact ⟨rfl, rfl⟩
    · rw [if_neg h2]
      have d2 : ((r : Int) == 9218868437227405312) = false := by rw [beq_eq_false_iff_ne]; omega
      by_cases h3 : r = 0
      · rw [if_pos h3]
        have hr : (r : Int) = 0 := by omega
        rw [hr] at e1
        clear hr d1 d2 h1 h2 h3 e3 hb
        cases hs : Fl.sgn b
        · rw [hs] at e2
          clear hs
          simp only [Bool.false_eq_true, if_false] at e2
          go_enter Tryz.func147, Tryz.ntmps147
          go_wp2
          go_ret
          exact ⟨rfl, rfl⟩
        · rw [hs] at e2
          clear hs
          simp only [if_true] at e2
          go_enter Tryz.func147, Tryz.ntmps147
          go_wp2
          go_ret
          exact ⟨rfl, rfl⟩
      · rw [if_neg h3]
        have d3 : ((r : Int) == 0) = false := by rw [beq_eq_false_iff_ne]; omega
        generalize (r : Int) = ri at *
        clear h1 h2 h3 e3 hb
        cases hs : Fl.sgn b
        · rw [hs] at e2
          clear hs
          simp only [Bool.false_eq_true, if_false] at e2
          go_enter Tryz.func147, Tryz.ntmps147
          go_wp2
          go_ret
          exact ⟨rfl, rfl⟩
        · rw [hs] at e2
          clear hs
          simp only [if_true] at e2
          go_enter Tryz.func147, Tryz.ntmps147
          go_wp2
          go_ret
          exact ⟨rfl, rfl⟩

theorem ret3b {k k' : IntKind} {s t : Bool} {a b c d : Int} (h0 : s = t) (h : a = b) (h' : c = d) : Ending.returned (.tuple #[.bool s, .int k a, .int k' c]) = .returned (.tuple #[.bool t, .int k b, .int k' d]) := by rw [h0, h, h']
theorem sign_eq (b : Nat) (bi : Int) (e2 : bi / 9223372036854775808 = (if Fl.sgn b = true then 1 else 0)) : (bi / 9223372036854775808 == 1) = Fl.sgn b := by
  rw [e2]; cases Fl.sgn b <;> rfl

set_option maxHeartbeats 1000000 in
theorem parts_ref (b : Nat) (w : World) (hb : b < 18446744073709551616) :
    Calls Tryz.prog 148 #[.int .u64 (b : Int)] w fun e w' => e = .returned (.tuple #[.bool (Fl.sgn b), .int .u64 (if 9218868437227405312 ≤ Fl.rng b then 0 else (Fl.mm (Fl.rng b) : Int)), .int .i64 (if 9218868437227405312 ≤ Fl.rng b then 0 else (Fl.mk (Fl.rng b) : Int) - 1074)]) ∧ w' = w := by
  obtain ⟨e1, e2, e3⟩ := word_split b hb
  have es := sign_eq b _ e2
  generalize Fl.rng b = r at *
  have hb1 : (b : Int) < 18446744073709551616 := by omega
  have hb0 : 0 ≤ (b : Int) := by omega
  generalize (b : Int) = bi at *
  clear e2 hb
  have f1 : (r : Int) / 4503599627370496 = ((r / 4503599627370496 : Nat) : Int) := by omega
  have f2 : (r : Int) % 4503599627370496 = ((r % 4503599627370496 : Nat) : Int) := by omega
  obtain ⟨e, he⟩ : ∃ e, r / 4503599627370496 = e := ⟨_, rfl⟩
  obtain ⟨m, hm⟩ : ∃ m, r % 4503599627370496 = m := ⟨_, rfl⟩
  have hel : e ≤ 2047 := by omega
  have hml : m < 4503599627370496 := by omega
  rw [he] at f1
  rw [hm] at f2
  obtain ⟨ri, hri⟩ : ∃ ri : Int, (r : Int) = ri := ⟨_, rfl⟩
  rw [hri] at e1 f1 f2
  have hr0 : 0 ≤ ri := by omega
  have hr1 : ri < 9223372036854775808 := by omega
  by_cases h1 : 9218868437227405312 ≤ r
  · rw [if_pos h1, if_pos h1]
    have e7 : e = 2047 := by omega
    rw [show (e : Int) = 2047 by omega] at f1
    clear h1 he hm hel hml hri e7 e3
    go_enter Tryz.func148, Tryz.ntmps148
    go_wp2
    go_ret3
    exact ⟨rfl, rfl⟩
  · rw [if_neg h1, if_neg h1]
    by_cases h2 : r < 4503599627370496
    · have e0 : e = 0 := by omega
      have hmm : Fl.mm r = m := by unfold Fl.mm; rw [if_pos h2]; omega
      have hmk : Fl.mk r = 0 := by unfold Fl.mk; omega
      rw [hmm, hmk]
      rw [show (e : Int) = 0 by omega] at f1
      clear h1 he hm hel hml hri e0 e3 h2 hmm hmk
      go_enter Tryz.func148, Tryz.ntmps148
      go_wp2
      go_ret3
      exact ⟨ret3b rfl f2 rfl, rfl⟩
    · have hmm : Fl.mm r = m + 4503599627370496 := by unfold Fl.mm; rw [if_neg h2]; omega
      have hmk : (Fl.mk r : Int) - 1074 = (e : Int) - 1075 := by unfold Fl.mk; omega
      rw [hmm, hmk]
      have d7 : ((e : Int) == 2047) = false := by rw [beq_eq_false_iff_ne]; omega
      have d0 : ((e : Int) == 0) = false := by rw [beq_eq_false_iff_ne]; omega
      have hel' : (e : Int) ≤ 2047 := by omega
      have he0 : 0 ≤ (e : Int) := by omega
      have hm' : (m : Int) < 4503599627370496 := by omega
      have hm0 : 0 ≤ (m : Int) := by omega
      have hc : ((m + 4503599627370496 : Nat) : Int) = (m : Int) + 4503599627370496 := by omega
      rw [hc]
      generalize (e : Int) = ei at *
      generalize (m : Int) = mi at *
      clear h1 hri e3 h2 hmm hmk hc
      go_enter Tryz.func148, Tryz.ntmps148
      go_wp2
      go_ret3
      exact ⟨rfl, rfl⟩

end Go.Proofs.YtbeijnflfmjgfaaGreatDoor

namespace Go.Proofs.YtbeijnflfmjgfaaGreatDoor
open Go.RowKit

theorem call_bits (b : Nat) (w : World) : (callFunc 111 #[.float .f64 b]).run Tryz.prog w = .ok (.value (.int .u64 (b : Int))) w :=
  run_callFunc_extern (e := Extern.MathFloatBits.float64bits) Tryz.func111 (by kernel_rfl) (by kernel_rfl) (by kernel_rfl) (by kernel_rfl) _ w
theorem call_from (n : Int) (w : World) : (callFunc 197 #[.int .u64 n]).run Tryz.prog w = .ok (.value (.float .f64 n.toNat)) w :=
  run_callFunc_extern (e := Extern.MathFloatBits.float64frombits) Tryz.func197 (by kernel_rfl) (by kernel_rfl) (by kernel_rfl) (by kernel_rfl) _ w

set_option maxHeartbeats 400000 in
theorem signbit_any (b : Nat) (w : World) :
    Calls Tryz.prog 186 #[.float .f64 b] w fun e w' => e = .returned (.bool (Fl.sgn b)) ∧ w' = w := by
  have hc := call_bits b w
  go_enter Tryz.func186, Tryz.ntmps186
  go_wp2
  go_ret
  refine ⟨congrArg (fun t => Ending.returned (.bool t)) ?_, rfl⟩
  unfold wrap64 Fl.sgn
  have h1 : b / 9223372036854775808 % 2 = 0 ∨ b / 9223372036854775808 % 2 = 1 := by omega
  rcases h1 with h1 | h1
  · rw [h1, decide_eq_false (by omega)]; rfl
  · rw [h1, decide_eq_true (by omega)]; rfl
theorem bits_abs (b : Nat) (hb : b < 18446744073709551616) : bits .andNot .u64 (b : Int) 9223372036854775808 = (Fl.rng b : Int) := by
  rw [u64_andNot _ _ (by omega) (by omega) (by omega) (by omega)]
  have e : (18446744073709551615 - (9223372036854775808 : Int).toNat : Nat) = 2 ^ 63 - 1 := by decide
  rw [e, Nat.and_two_pow_sub_one_eq_mod]; rfl
set_option maxHeartbeats 400000 in
theorem abs_any (b : Nat) (w : World) (hb : b < 18446744073709551616) :
    Calls Tryz.prog 187 #[.float .f64 b] w fun e w' => e = .returned (.float .f64 (Fl.rng b)) ∧ w' = w := by
  have hc := call_bits b w
  have hd := call_from (Fl.rng b) w
  rw [Int.toNat_natCast] at hd
  have ha := bits_abs b hb
  go_enter Tryz.func187, Tryz.ntmps187
  go_wp2
  go_ret
  exact ⟨rfl, rfl⟩
end Go.Proofs.YtbeijnflfmjgfaaGreatDoor

namespace Go.Proofs.YtbeijnflfmjgfaaGreatDoor.Fl
open Ieee

def rv (v : Nat) : Nat := (v.log2 - 52) * 4503599627370496 + v / 2 ^ (v.log2 - 52)
def Fits (v : Nat) : Prop := v % 2 ^ (v.log2 - 52) = 0

theorem log2_mul_pow (m k : Nat) (h : m ≠ 0) : (m * 2 ^ k).log2 = m.log2 + k := by
  have hm : m * 2 ^ k ≠ 0 := Nat.mul_ne_zero h (Nat.pos_iff_ne_zero.1 (Nat.two_pow_pos k))
  rw [Nat.log2_eq_iff hm, Nat.pow_add, show m.log2 + k + 1 = (m.log2 + 1) + k by omega, Nat.pow_add]
  exact ⟨Nat.mul_le_mul_right _ (Nat.log2_self_le h), Nat.mul_lt_mul_of_pos_right Nat.lt_log2_self (Nat.two_pow_pos k)⟩

theorem cut_zero (neg : Bool) (n : Nat) : Toward.even.cut neg n 0 = n := by
  unfold Toward.cut
  simp [Nat.mod_one]
theorem cut_exact (neg : Bool) (n d : Nat) (hd : d ≤ n.log2 + 2) (h : n % 2 ^ d = 0) : Toward.even.cut neg n d = n / 2 ^ d := by
  unfold Toward.cut
  have p : 0 < 2 ^ d := Nat.two_pow_pos d
  have e : 1 <<< min d (n.log2 + 2) = 2 ^ d := by rw [Nat.min_eq_left hd, Nat.shiftLeft_eq, Nat.one_mul]
  simp only [e, h]
  have h1 : decide (2 ^ d < 2 * 0) = false := by rw [decide_eq_false_iff_not]; omega
  have h2 : (2 ^ d == 2 * 0) = false := by rw [beq_eq_false_iff_ne]; omega
  rw [h1, h2]; rfl

theorem word_min (neg : Bool) (r : Nat) (h : r ≤ 9218868437227405312) : double.word neg (min r double.infRung) = (if neg = true then 9223372036854775808 + r else r) := by
  unfold Format.word
  rw [ir, sw, Nat.min_eq_left h]

theorem near_up (neg : Bool) (m k : Nat) (hm : m ≠ 0) (hf : Fits (m * 2 ^ k)) (hr : rv (m * 2 ^ k) ≤ 9218868437227405312) :
    double.nearest neg m (-1074 + (k : Int)) = (if neg = true then 9223372036854775808 + rv (m * 2 ^ k) else rv (m * 2 ^ k)) := by
  rw [← word_min neg _ hr]
  unfold Format.nearest
  rw [if_neg hm, lp, fb, bn]
  have hl := log2_mul_pow m k hm
  obtain ⟨d, hd⟩ : ∃ d, (m * 2 ^ k).log2 - 52 = d := ⟨_, rfl⟩
  have e1 : max (-1074 + (k : Int) + (m.log2 : Int) - ((52 : Nat) : Int)) (-1074) = -1074 + (d : Int) := by omega
  have e2 : ((-1074 + (k : Int)) - (-1074 + (d : Int))).toNat = k - d := by omega
  have e3 : ((-1074 + (d : Int)) - (-1074 + (k : Int))).toNat = d - k := by omega
  have e4 : ((-1074 + (d : Int)) - (-1074)).toNat = d := by omega
  simp only [e1, e2, e3, e4]
  refine congrArg (fun t => double.word neg (min t double.infRung)) ?_
  unfold rv
  rw [hd]
  refine congrArg (fun t => d * 4503599627370496 + t) ?_
  unfold Fits at hf
  rw [hd] at hf
  rcases Nat.le_total d k with h | h
  · rw [show d - k = 0 by omega, cut_zero, Nat.shiftLeft_eq]
    have : m * 2 ^ k = m * 2 ^ (k - d) * 2 ^ d := by rw [Nat.mul_assoc, ← Nat.pow_add, Nat.sub_add_cancel h]
    rw [this, Nat.mul_div_cancel _ (Nat.two_pow_pos d)]
  · have ed : 2 ^ d = 2 ^ (d - k) * 2 ^ k := by rw [← Nat.pow_add, Nat.sub_add_cancel h]
    rw [ed, Nat.mul_mod_mul_right] at hf
    have hz : m % 2 ^ (d - k) = 0 := by
      rcases Nat.mul_eq_zero.1 hf with h | h
      · exact h
      · have := Nat.two_pow_pos k; omega
    rw [show k - d = 0 by omega, Nat.shiftLeft_zero, cut_exact _ _ _ (by omega) hz, ed, Nat.mul_div_mul_right _ _ (Nat.two_pow_pos k)]

theorem near_down (neg : Bool) (v k : Nat) (hv : v ≠ 0) (hf : Fits v) (hr : rv v ≤ 9218868437227405312) :
    double.nearest neg (v * 2 ^ k) (-1074 - (k : Int)) = (if neg = true then 9223372036854775808 + rv v else rv v) := by
  rw [← word_min neg _ hr]
  have hm : v * 2 ^ k ≠ 0 := Nat.mul_ne_zero hv (Nat.pos_iff_ne_zero.1 (Nat.two_pow_pos k))
  unfold Format.nearest
  rw [if_neg hm, lp, fb, bn]
  have hl := log2_mul_pow v k hv
  obtain ⟨d, hd⟩ : ∃ d, v.log2 - 52 = d := ⟨_, rfl⟩
  rw [hl]
  have e1 : max (-1074 - (k : Int) + ((v.log2 + k : Nat) : Int) - ((52 : Nat) : Int)) (-1074) = -1074 + (d : Int) := by omega
  have e2 : ((-1074 - (k : Int)) - (-1074 + (d : Int))).toNat = 0 := by omega
  have e3 : ((-1074 + (d : Int)) - (-1074 - (k : Int))).toNat = d + k := by omega
  have e4 : ((-1074 + (d : Int)) - (-1074)).toNat = d := by omega
  simp only [e1, e2, e3, e4]
  refine congrArg (fun t => double.word neg (min t double.infRung)) ?_
  unfold rv
  rw [hd]
  refine congrArg (fun t => d * 4503599627370496 + t) ?_
  unfold Fits at hf
  rw [hd] at hf
  rw [Nat.shiftLeft_zero, cut_exact _ _ _ (by omega) (by rw [Nat.pow_add, Nat.mul_mod_mul_right, hf, Nat.zero_mul]), Nat.pow_add, Nat.mul_div_mul_right _ _ (Nat.two_pow_pos k)]

theorem log2_lt_of {n k : Nat} (h : n < 2 ^ k) (hk : 0 < k) : n.log2 < k := by
  rcases Nat.eq_zero_or_pos n with h0 | h0
  · subst h0; simpa using hk
  · exact (Nat.log2_lt (by omega)).2 h
theorem fits_mul (m k : Nat) (hm : m < 9007199254740992) : Fits (m * 2 ^ k) := by
  unfold Fits
  rcases Nat.eq_zero_or_pos m with h0 | h0
  · subst h0; simp
  · rw [log2_mul_pow m k (by omega)]
    have hl : m.log2 < 53 := log2_lt_of (by simpa using hm) (by omega)
    have : m * 2 ^ k = m * 2 ^ (k - (m.log2 + k - 52)) * 2 ^ (m.log2 + k - 52) := by rw [Nat.mul_assoc, ← Nat.pow_add, Nat.sub_add_cancel (by omega)]
    rw [this, Nat.mul_mod_left]
theorem rv_mg (r : Nat) : rv (mg r) = r := by
  by_cases h : r < 4503599627370496
  · have e : mg r = r := by unfold mg; rw [if_pos h]
    rw [e]
    unfold rv
    have hl : r.log2 < 52 := log2_lt_of (by simpa using h) (by omega)
    rw [show r.log2 - 52 = 0 by omega]; simp
  · rw [mg_eq]
    have h1 := mm_lt r
    have h2 := mm_ge r (by omega)
    have hl : (mm r).log2 = 52 := by
      rw [Nat.log2_eq_iff (by omega)]
      exact ⟨h2, h1⟩
    unfold rv
    rw [log2_mul_pow _ _ (by omega), hl, show 52 + mk r - 52 = mk r by omega, Nat.mul_div_cancel _ (Nat.two_pow_pos _)]
    unfold mm mk
    rw [if_neg h]
    omega
theorem fits_mg (r : Nat) : Fits (mg r) := by rw [mg_eq]; exact fits_mul _ _ (mm_lt r)
theorem mg_rv (m k : Nat) (hm : m < 9007199254740992) : mg (rv (m * 2 ^ k)) = m * 2 ^ k := by
  have hf := fits_mul m k hm
  obtain ⟨v, hv⟩ : ∃ v, m * 2 ^ k = v := ⟨_, rfl⟩
  rw [hv] at hf ⊢
  clear hm hv m k
  unfold rv Fits at *
  by_cases h : v.log2 < 52
  · rw [show v.log2 - 52 = 0 by omega]
    have hv : v < 4503599627370496 := by
      have h1 := @Nat.lt_log2_self v
      have h2 : 2 ^ (v.log2 + 1) ≤ 2 ^ 52 := Nat.pow_le_pow_right (by omega) (by omega)
      have : v < 2 ^ 52 := Nat.lt_of_lt_of_le h1 h2
      simpa using this
    simp only [Nat.pow_zero, Nat.div_one, Nat.zero_mul, Nat.zero_add]
    unfold mg; rw [if_pos hv]
  · obtain ⟨d, hd⟩ : ∃ d, v.log2 - 52 = d := ⟨_, rfl⟩
    rw [hd] at hf ⊢
    have hv0 : v ≠ 0 := by intro h0; subst h0; simp at h
    obtain ⟨q, hq⟩ : ∃ q, v / 2 ^ d = q := ⟨_, rfl⟩
    have hvq : v = q * 2 ^ d := by
      have := Nat.div_add_mod v (2 ^ d)
      rw [hf, hq, Nat.add_zero, Nat.mul_comm] at this; exact this.symm
    have h1 := Nat.log2_self_le hv0
    have h2 := @Nat.lt_log2_self v
    rw [show v.log2 = 52 + d by omega, Nat.pow_add] at h1
    rw [show v.log2 + 1 = 53 + d by omega, Nat.pow_add] at h2
    have p : 0 < 2 ^ d := Nat.two_pow_pos d
    have q1 : 4503599627370496 ≤ q := by
      rw [hvq] at h1
      exact Nat.le_of_mul_le_mul_right h1 p
    have q2 : q < 9007199254740992 := by
      rw [hvq] at h2
      exact Nat.lt_of_mul_lt_mul_right h2
    rw [hq]
    unfold mg
    rw [if_neg (by omega)]
    have e1 : (d * 4503599627370496 + q) % 4503599627370496 = q - 4503599627370496 := by omega
    have e2 : (d * 4503599627370496 + q) / 4503599627370496 - 1 = d := by omega
    rw [e1, e2, hvq, show 4503599627370496 + (q - 4503599627370496) = q by omega]
theorem mg_inf : mg 9218868437227405312 = 4503599627370496 * 2 ^ 2046 := by
  unfold mg; rw [if_neg (by decide), show 9218868437227405312 % 4503599627370496 = 0 from by decide, show 9218868437227405312 / 4503599627370496 - 1 = 2046 from by decide, Nat.add_zero]
theorem rv_lt (m k : Nat) (hm : m < 9007199254740992) (h : m * 2 ^ k < 4503599627370496 * 2 ^ 2046) : rv (m * 2 ^ k) < 9218868437227405312 := by
  rw [← mg_lt_iff, mg_rv m k hm, mg_inf]; exact h

theorem mul_two (r : Nat) (h0 : 0 < r) (h : 2 * mg r < 4503599627370496 * 2 ^ 2046) : double.mul r 4611686018427387904 = some (rv (2 * mg r)) ∧ mg (rv (2 * mg r)) = 2 * mg r ∧ rv (2 * mg r) < 9218868437227405312 := by
  have e : 2 * mg r = mm r * 2 ^ (mk r + 1) := by rw [mg_eq, Nat.pow_succ]; generalize 2 ^ mk r = p; rw [Nat.mul_comm p 2, ← Nat.mul_assoc, ← Nat.mul_assoc, Nat.mul_comm 2]
  have hr : r < 9218868437227405312 := by
    rw [← mg_lt_iff, mg_inf]; omega
  have hlt := h
  rw [e] at hlt
  have h3 := rv_lt _ _ (mm_lt r) hlt
  rw [e]
  refine ⟨?_, mg_rv _ _ (mm_lt r), h3⟩
  have hs : sgn r = false := by unfold sgn; rw [Nat.div_eq_of_lt (by omega)]; rfl
  have hrn : rng r = r := by unfold rng; exact Nat.mod_eq_of_lt (by omega)
  unfold Format.mul
  rw [read_fin r (by rw [hrn]; exact hr), hs, hrn]
  have h2 : double.read 4611686018427387904 = .number false 4503599627370496 (-1074 + (1023 : Nat)) := by decide +kernel
  rw [h2]
  show some (double.nearest (false ^^ false) (mm r * 4503599627370496) ((-1074 + (mk r : Int)) + (-1074 + ((1023 : Nat) : Int)))) = _
  have hp : mg r ≠ 0 := by have := mg_pos h0; omega
  have hm0 : mm r ≠ 0 := by intro hc; rw [mg_eq, hc] at hp; simp at hp
  have hv0 : mm r * 2 ^ (mk r + 1) ≠ 0 := Nat.mul_ne_zero hm0 (Nat.pos_iff_ne_zero.1 (Nat.two_pow_pos _))
  by_cases hk : mk r + 1 ≤ 52
  · have hh := near_down false (mm r * 2 ^ (mk r + 1)) (51 - mk r) hv0 (fits_mul _ _ (mm_lt r)) (Nat.le_of_lt h3)
    rw [Nat.mul_assoc, ← Nat.pow_add, show mk r + 1 + (51 - mk r) = 52 by omega] at hh
    rw [show (-1074 + (mk r : Int)) + (-1074 + ((1023 : Nat) : Int)) = -1074 - ((51 - mk r : Nat) : Int) by omega]
    exact congrArg some hh
  · have hh := near_up false (mm r * 4503599627370496) (mk r - 51) (Nat.mul_ne_zero hm0 (by omega))
    rw [show mm r * 4503599627370496 * 2 ^ (mk r - 51) = mm r * 2 ^ (mk r + 1) from by
      rw [show (4503599627370496 : Nat) = 2 ^ 52 from by decide, Nat.mul_assoc, ← Nat.pow_add, show 52 + (mk r - 51) = mk r + 1 by omega]] at hh
    rw [show (-1074 + (mk r : Int)) + (-1074 + ((1023 : Nat) : Int)) = -1074 + ((mk r - 51 : Nat) : Int) by omega]
    exact congrArg some (hh (fits_mul _ _ (mm_lt r)) (Nat.le_of_lt h3))
end Go.Proofs.YtbeijnflfmjgfaaGreatDoor.Fl

namespace Go.Proofs.YtbeijnflfmjgfaaGreatDoor.Fl
open Ieee

def kU : Nat := 1074
theorem kU_eq : kU = 1074 := rfl
theorem un_pos : 0 < 2 ^ kU := Nat.two_pow_pos _
theorem un_split (k : Nat) (h : k ≤ kU) : 2 ^ kU = 2 ^ (kU - k) * 2 ^ k := by rw [← Nat.pow_add, Nat.sub_add_cancel h]
theorem fl_sgn_small {r : Nat} (h : r < 9223372036854775808) : sgn r = false := by unfold sgn; rw [Nat.div_eq_of_lt h]; rfl
theorem rng_small {r : Nat} (h : r < 9223372036854775808) : rng r = r := by unfold rng; exact Nat.mod_eq_of_lt h

theorem log2_52 {m : Nat} (h1 : 4503599627370496 ≤ m) (h2 : m < 9007199254740992) : m.log2 = 52 := by
  rw [Nat.log2_eq_iff (by omega)]; exact ⟨h1, h2⟩
theorem mm_sub {r p : Nat} (h : p * 4503599627370496 + 4503599627370496 ≤ r) : mm (r - p * 4503599627370496) = mm r ∧ mk (r - p * 4503599627370496) = mk r - p := by
  unfold mm mk
  rw [if_neg (by omega), if_neg (by omega)]
  omega
theorem div_two (r : Nat) (h1 : 4845873199050653696 ≤ r) (h2 : r < 9218868437227405312) : double.div r 4611686018427387904 = some (r - 4503599627370496) := by
  unfold Format.div
  rw [read_fin r (by rw [rng_small (by omega)]; exact h2), fl_sgn_small (by omega), rng_small (by omega)]
  have e2 : double.read 4611686018427387904 = .number false 4503599627370496 (-1074 + (1023 : Nat)) := by decide +kernel
  rw [e2]
  have hm := mm_lt r
  have hg := mm_ge r (by omega)
  have hk : 1075 ≤ mk r := by unfold mk; omega
  have hl : (mm r).log2 = 52 := by rw [Nat.log2_eq_iff (by omega)]; exact ⟨hg, hm⟩
  have hl2 : (4503599627370496 : Nat).log2 = 52 := by decide
  show ((if (4503599627370496 : Nat) = 0 then (if mm r = 0 then none else some (Datum.infinity (false ^^ false))) else some (Datum.number (false ^^ false) (2 * (mm r <<< (double.fractionBits + 2 + (4503599627370496 : Nat).log2 - (mm r).log2) / 4503599627370496) + (mm r <<< (double.fractionBits + 2 + (4503599627370496 : Nat).log2 - (mm r).log2) % 4503599627370496 != 0).toNat) ((-1074 + (mk r : Int)) - (-1074 + ((1023 : Nat) : Int)) - ((double.fractionBits + 2 + (4503599627370496 : Nat).log2 - (mm r).log2 : Nat) : Int) - 1))).map double.write) = _
  rw [if_neg (by decide), hl, hl2, fb, show (52 + 2 + 52 - 52 : Nat) = 54 from rfl, Nat.shiftLeft_eq]
  have d1 : mm r * 2 ^ 54 / 4503599627370496 = mm r * 4 := by
    rw [show (2 : Nat) ^ 54 = 4 * 4503599627370496 from by decide, ← Nat.mul_assoc, Nat.mul_div_cancel _ (by decide)]
  have d2 : mm r * 2 ^ 54 % 4503599627370496 = 0 := by
    rw [show (2 : Nat) ^ 54 = 4 * 4503599627370496 from by decide, ← Nat.mul_assoc, Nat.mul_mod_left]
  rw [d1, d2]
  show some (double.nearest (false ^^ false) (2 * (mm r * 4) + 0) _) = _
  rw [show (-1074 + (mk r : Int)) - (-1074 + ((1023 : Nat) : Int)) - ((54 : Nat) : Int) - 1 = -1074 + ((mk r - 4 : Nat) : Int) by omega, Nat.add_zero]
  obtain ⟨s1, s2⟩ := mm_sub (r := r) (p := 1) (by omega)
  rw [Nat.one_mul] at s1 s2
  have ev : 2 * (mm r * 4) * 2 ^ (mk r - 4) = mg (r - 4503599627370496) := by
    rw [mg_eq, s1, s2, show mk r - 1 = 3 + (mk r - 4) by omega, Nat.pow_add, ← Nat.mul_assoc (mm r), show 2 * (mm r * 4) = mm r * 2 ^ 3 by omega]
  have hh := near_up false (2 * (mm r * 4)) (mk r - 4) (by omega)
  rw [ev, rv_mg] at hh
  have h3 := hh (fits_mg _) (by omega)
  rw [if_neg (by decide)] at h3
  rw [← h3]; rfl

theorem mg_c52 : mg 4841369599423283200 = 4503599627370496 * 2 ^ kU := by
  unfold mg; rw [if_neg (by decide), show 4841369599423283200 % 4503599627370496 = 0 from by decide, show 4841369599423283200 / 4503599627370496 - 1 = kU from by decide, Nat.add_zero]
theorem mg_c53 : mg 4845873199050653696 = 9007199254740992 * 2 ^ kU := by
  unfold mg; rw [if_neg (by decide), show 4845873199050653696 % 4503599627370496 = 0 from by decide, show 4845873199050653696 / 4503599627370496 - 1 = kU + 1 from by decide, Nat.add_zero, Nat.pow_succ]; generalize 2 ^ kU = p; omega
theorem dbl (r : Nat) (h : r < 4841369599423283200) : ∃ r', double.mul r 4611686018427387904 = some r' ∧ mg r' = 2 * mg r ∧ r' < 4845873199050653696 := by
  rcases Nat.eq_zero_or_pos r with h0 | h0
  · subst h0; exact ⟨0, by decide +kernel, by decide, by decide⟩
  · have hlt := mg_lt h
    rw [mg_c52] at hlt
    have h53 : 2 * mg r < 9007199254740992 * 2 ^ kU := by
      generalize 2 ^ kU = p at *; omega
    have hbig : mg 4845873199050653696 < mg 9218868437227405312 := mg_lt (by decide)
    rw [mg_c53, mg_inf] at hbig
    obtain ⟨e1, e2, e3⟩ := mul_two r h0 (Nat.lt_trans h53 hbig)
    refine ⟨_, e1, e2, ?_⟩
    rw [← mg_lt_iff, e2, mg_c53]; exact h53

theorem cut_to_zero (neg : Bool) (n d : Nat) : Toward.zero.cut neg n d = n / 2 ^ d := by
  unfold Toward.cut
  show n / (1 <<< min d (n.log2 + 2)) + 0 = _
  rw [Nat.shiftLeft_eq, Nat.one_mul, Nat.add_zero]
  rcases Nat.le_total d (n.log2 + 2) with h | h
  · rw [Nat.min_eq_left h]
  · rw [Nat.min_eq_right h]
    have h1 := @Nat.lt_log2_self n
    have h2 : 2 ^ (n.log2 + 1) ≤ 2 ^ (n.log2 + 2) := Nat.pow_le_pow_right (by omega) (by omega)
    have h3 : 2 ^ (n.log2 + 2) ≤ 2 ^ d := Nat.pow_le_pow_right (by omega) h
    rw [Nat.div_eq_of_lt (by omega), Nat.div_eq_of_lt (by omega)]
theorem whole_part (r : Nat) (h : r < 4845873199050653696) : floatToIntVal .f64 r .u64 = some ((mg r / 2 ^ kU : Nat) : Int) := by
  have hk : mk r ≤ kU := by unfold mk kU; omega
  have hv : mg r / 2 ^ kU < 9007199254740992 := by
    rw [Nat.div_lt_iff_lt_mul un_pos, ← mg_c53]; exact mg_lt h
  have e : (FloatKind.f64.decode r).toInt .zero = some ((mg r / 2 ^ kU : Nat) : Int) := by
    show (double.read r).toInt .zero = _
    rw [read_fin r (by rw [rng_small (by omega)]; omega), fl_sgn_small (by omega), rng_small (by omega)]
    show some (signed false (Toward.zero.cut false (mm r <<< (-1074 + (mk r : Int)).toNat) (-(-1074 + (mk r : Int))).toNat) 0) = _
    rw [show (-1074 + (mk r : Int)).toNat = 0 by have := kU_eq; omega, Nat.shiftLeft_zero, show (-(-1074 + (mk r : Int))).toNat = kU - mk r by have := kU_eq; omega, cut_to_zero]
    show some (((mm r / 2 ^ (kU - mk r)) <<< 0 : Nat) : Int) = _
    rw [Nat.shiftLeft_zero]
    refine congrArg (fun t : Nat => some (t : Int)) ?_
    rw [mg_eq, un_split (mk r) hk, Nat.mul_div_mul_right _ _ (Nat.two_pow_pos _)]
  unfold floatToIntVal
  rw [e]
  have hb : IntKind.u64.min ≤ ((mg r / 2 ^ kU : Nat) : Int) ∧ ((mg r / 2 ^ kU : Nat) : Int) ≤ IntKind.u64.max := by
    generalize mg r / 2 ^ kU = n at *
    have e1 : IntKind.u64.min = 0 := by decide
    have e2 : IntKind.u64.max = 18446744073709551615 := by decide
    rw [e1, e2]; omega
  show (if _ then _ else _) = _
  rw [if_pos hb]

theorem end_one (r0 r p : Nat) (h : r + p * 4503599627370496 = r0) (hp : 0 < p) (h1 : 4841369599423283200 ≤ r) (h2 : r < 4845873199050653696) : mg r / 2 ^ kU = mm r0 ∧ (p : Int) = (mk r0 : Int) - 1074 := by
  have e : r = r0 - p * 4503599627370496 := by omega
  obtain ⟨s1, s2⟩ := mm_sub (r := r0) (p := p) (by omega)
  rw [← e] at s1 s2
  have hk : mk r = kU := by unfold mk kU; omega
  have hk0 : 1074 ≤ mk r0 := by unfold mk; omega
  rw [mg_eq, hk, Nat.mul_div_cancel _ un_pos, s1]
  have := kU_eq
  exact ⟨rfl, by omega⟩
theorem end_two (r0 r q : Nat) (h : mg r = mg r0 * 2 ^ q) (hq : q ≤ kU) (h2 : r < 4845873199050653696) (hx : 4841369599423283200 ≤ r ∨ q = kU) : mg r / 2 ^ kU = mm r0 ∧ -(q : Int) = (mk r0 : Int) - 1074 := by
  by_cases hr : 4841369599423283200 ≤ r
  · have hk : mk r = kU := by unfold mk kU; omega
    have hg := mm_ge r (by omega)
    have hl := mm_lt r
    have e := h
    rw [mg_eq r, hk] at e
    rw [mg_eq r, hk, Nat.mul_div_cancel _ un_pos]
    rw [mg_eq r0, Nat.mul_assoc, ← Nat.pow_add] at e
    have hl0 := mm_lt r0
    by_cases hn : r0 < 4503599627370496
    · exfalso
      have hmm : mm r0 = r0 := by unfold mm; rw [if_pos hn]
      have hmk : mk r0 = 0 := by unfold mk; omega
      rw [hmm, hmk, Nat.zero_add] at e
      have p1 : 2 ^ q ≤ 2 ^ kU := Nat.pow_le_pow_right (by omega) hq
      have p2 : r0 * 2 ^ q ≤ r0 * 2 ^ kU := Nat.mul_le_mul_left _ p1
      have p3 : r0 * 2 ^ kU < mm r * 2 ^ kU := Nat.mul_lt_mul_of_pos_right (by omega) un_pos
      omega
    · have hg0 := mm_ge r0 (by omega)
      have a1 : (mm r0 * 2 ^ (mk r0 + q)).log2 = 52 + (mk r0 + q) := by
        rw [log2_mul_pow _ _ (by omega), log2_52 hg0 hl0]
      have a2 : (mm r * 2 ^ kU).log2 = 52 + kU := by
        rw [log2_mul_pow _ _ (by omega), log2_52 hg hl]
      rw [← e, a2] at a1
      have a3 : mk r0 + q = kU := by omega
      rw [a3] at e
      have := kU_eq
      exact ⟨Nat.eq_of_mul_eq_mul_right un_pos e, by omega⟩
  · have hq' : q = kU := by omega
    subst hq'
    have hlt := mg_lt (show r < 4841369599423283200 by omega)
    rw [mg_c52, h] at hlt
    have hs : mg r0 < 4503599627370496 := Nat.lt_of_mul_lt_mul_right hlt
    have hr0 : r0 < 4503599627370496 := by
      rcases Nat.lt_or_ge r0 4503599627370496 with hc | hc
      · exact hc
      · have := mg_le hc
        rw [show mg 4503599627370496 = 4503599627370496 from by decide] at this
        omega
    rw [h, Nat.mul_div_cancel _ un_pos]
    unfold mg mm mk
    rw [if_pos hr0, if_pos hr0]
    have := kU_eq
    exact ⟨rfl, by omega⟩
end Go.Proofs.YtbeijnflfmjgfaaGreatDoor.Fl
