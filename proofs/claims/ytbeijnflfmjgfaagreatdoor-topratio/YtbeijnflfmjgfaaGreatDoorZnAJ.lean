/- Plain facts on float64: halving, doubling, the whole part; what Parts' two loops come to. -/
import Derived.Laws.BitsAllLaws
import Derived.Laws.FloatArith
import Derived.Laws.Rows
import Derived.OwnWalk
import Derived.Shelf.Bits.Mul64
import Derived.Shelf.LaysM
import Derived.Shelf.Small.Bits
import Derived.Shelf.Small.Strs
import Derived.Shelf.Small.Wraps
import Derived.Shelf.Strconv.Itoa0
import Derived.Shelf.Strconv.Itoa1
import Derived.Shelf.Strconv.Itoa2
import Derived.Shelf.Strings.AsciiSet
import Derived.Shelf.Strings.Cut
import Derived.Shelf.Strings.Prefix
import Derived.Shelf.Strings.Search1
import Derived.Shelf.Strings.Search2
import Derived.Shelf.Strings.Shaped
import Derived.Shelf.Strings.Trim
import Derived.Test.YtbeijnflfmjgfaaGreatDoorProg
import Derived.Test.YtbeijnflfmjgfaaGreatDoorRows
import Derived.WalkKit
import Derived.WalkLawsBesides
import Derived.WalkSpells
import Ieee.Arith
import Derived.Test.YtbeijnflfmjgfaaGreatDoorZnAI
import Derived.Test.YtbeijnflfmjgfaaGreatDoorZnAA
import Derived.Test.YtbeijnflfmjgfaaGreatDoorZnAB
import Derived.Test.YtbeijnflfmjgfaaGreatDoorZnAD
namespace Go.Proofs.YtbeijnflfmjgfaaGreatDoor.Fl
open Ieee

def kU : Nat := 1074
theorem kU_eq : kU = 1074 := rfl
theorem un_pos : 0 < 2 ^ kU := Nat.two_pow_pos _
theorem un_split (k : Nat) (h : k ≤ kU) : 2 ^ kU = 2 ^ (kU - k) * 2 ^ k := by rw [← Nat.pow_add, Nat.sub_add_cancel h]
theorem fl_sgn_small {r : Nat} (h : r < 9223372036854775808) : sgn r = false := by unfold sgn; rw [Nat.div_eq_of_lt h]; rfl
theorem rng_small {r : Nat} (h : r < 9223372036854775808) : rng r = r := by unfold rng; exact Nat.mod_eq_of_lt h

theorem log2_52 {m : Nat} (h1 : 4503599627370496 ≤ m) (h2 : m < 9007199254740992) : m.log2 = 52 := by
  rw [Nat.log2_eq_iff (by omega)]; exact ⟨h1, h2⟩
theorem mm_sub {r p : Nat} (h : p * 4503599627370496 + 4503599627370496 ≤ r) : mm (r - p * 4503599627370496) = mm r ∧ mk (r - p * 4503599627370496) = mk r - p := by
  unfold mm mk
  rw [if_neg (by omega), if_neg (by omega)]
  omega
theorem div_two (r : Nat) (h1 : 4845873199050653696 ≤ r) (h2 : r < 9218868437227405312) : double.div r 4611686018427387904 = some (r - 4503599627370496) := by
  unfold Format.div
  rw [read_fin r (by rw [rng_small (by omega)]; exact h2), fl_sgn_small (by omega), rng_small (by omega)]
  have e2 : double.read 4611686018427387904 = .number false 4503599627370496 (-1074 + (1023 : Nat)) := by decide +kernel
  rw [e2]
  have hm := mm_lt r
  have hg := mm_ge r (by omega)
  have hk : 1075 ≤ mk r := by unfold mk; omega
  have hl : (mm r).log2 = 52 := by rw [Nat.log2_eq_iff (by omega)]; exact ⟨hg, hm⟩
  have hl2 : (4503599627370496 : Nat).log2 = 52 := by decide
  show ((if (4503599627370496 : Nat) = 0 then (if mm r = 0 then none else some (Datum.infinity (false ^^ false))) else some (Datum.number (false ^^ false) (2 * (mm r <<< (double.fractionBits + 2 + (4503599627370496 : Nat).log2 - (mm r).log2) / 4503599627370496) + (mm r <<< (double.fractionBits + 2 + (4503599627370496 : Nat).log2 - (mm r).log2) % 4503599627370496 != 0).toNat) ((-1074 + (mk r : Int)) - (-1074 + ((1023 : Nat) : Int)) - ((double.fractionBits + 2 + (4503599627370496 : Nat).log2 - (mm r).log2 : Nat) : Int) - 1))).map double.write) = _
  rw [if_neg (by decide), hl, hl2, fb, show (52 + 2 + 52 - 52 : Nat) = 54 from rfl, Nat.shiftLeft_eq]
  have d1 : mm r * 2 ^ 54 / 4503599627370496 = mm r * 4 := by
    rw [show (2 : Nat) ^ 54 = 4 * 4503599627370496 from by decide, ← Nat.mul_assoc, Nat.mul_div_cancel _ (by decide)]
  have d2 : mm r * 2 ^ 54 % 4503599627370496 = 0 := by
    rw [show (2 : Nat) ^ 54 = 4 * 4503599627370496 from by decide, ← Nat.mul_assoc, Nat.mul_mod_left]
  rw [d1, d2]
  show some (double.nearest (false ^^ false) (2 * (mm r * 4) + 0) _) = _
  rw [show (-1074 + (mk r : Int)) - (-1074 + ((1023 : Nat) : Int)) - ((54 : Nat) : Int) - 1 = -1074 + ((mk r - 4 : Nat) : Int) by omega, Nat.add_zero]
  obtain ⟨s1, s2⟩ := mm_sub (r := r) (p := 1) (by omega)
  rw [Nat.one_mul] at s1 s2
  have ev : 2 * (mm r * 4) * 2 ^ (mk r - 4) = mg (r - 4503599627370496) := by
    rw [mg_eq, s1, s2, show mk r - 1 = 3 + (mk r - 4) by omega, Nat.pow_add, ← Nat.mul_assoc (mm r), show 2 * (mm r * 4) = mm r * 2 ^ 3 by omega]
  have hh := near_up false (2 * (mm r * 4)) (mk r - 4) (by omega)
  rw [ev, rv_mg] at hh
  have h3 := hh (fits_mg _) (by omega)
  rw [if_neg (by decide)] at h3
  rw [← h3]; rfl

theorem mg_c52 : mg 4841369599423283200 = 4503599627370496 * 2 ^ kU := by
  unfold mg; rw [if_neg (by decide), show 4841369599423283200 % 4503599627370496 = 0 from by decide, show 4841369599423283200 / 4503599627370496 - 1 = kU from by decide, Nat.add_zero]
theorem mg_c53 : mg 4845873199050653696 = 9007199254740992 * 2 ^ kU := by
  unfold mg; rw [if_neg (by decide), show 4845873199050653696 % 4503599627370496 = 0 from by decide, show 4845873199050653696 / 4503599627370496 - 1 = kU + 1 from by decide, Nat.add_zero, Nat.pow_succ]; generalize 2 ^ kU = p; omega
theorem dbl (r : Nat) (h : r < 4841369599423283200) : ∃ r', double.mul r 4611686018427387904 = some r' ∧ mg r' = 2 * mg r ∧ r' < 4845873199050653696 := by
  rcases Nat.eq_zero_or_pos r with h0 | h0
  · subst h0; exact ⟨0, by decide +kernel, by decide, by decide⟩
  · have hlt := mg_lt h
    rw [mg_c52] at hlt
    have h53 : 2 * mg r < 9007199254740992 * 2 ^ kU := by
      generalize 2 ^ kU = p at *; omega
    have hbig : mg 4845873199050653696 < mg 9218868437227405312 := mg_lt (by decide)
    rw [mg_c53, mg_inf] at hbig
    obtain ⟨e1, e2, e3⟩ := mul_two r h0 (Nat.lt_trans h53 hbig)
    refine ⟨_, e1, e2, ?_⟩
    rw [← mg_lt_iff, e2, mg_c53]; exact h53

theorem cut_to_zero (neg : Bool) (n d : Nat) : Toward.zero.cut neg n d = n / 2 ^ d := by
  unfold Toward.cut
  show n / (1 <<< min d (n.log2 + 2)) + 0 = _
  rw [Nat.shiftLeft_eq, Nat.one_mul, Nat.add_zero]
  rcases Nat.le_total d (n.log2 + 2) with h | h
  · rw [Nat.min_eq_left h]
  · rw [Nat.min_eq_right h]
    have h1 := @Nat.lt_log2_self n
    have h2 : 2 ^ (n.log2 + 1) ≤ 2 ^ (n.log2 + 2) := Nat.pow_le_pow_right (by omega) (by omega)
    have h3 : 2 ^ (n.log2 + 2) ≤ 2 ^ d := Nat.pow_le_pow_right (by omega) h
    rw [Nat.div_eq_of_lt (by omega), Nat.div_eq_of_lt (by omega)]
theorem whole_part (r : Nat) (h : r < 4845873199050653696) : floatToIntVal .f64 r .u64 = some ((mg r / 2 ^ kU : Nat) : Int) := by
  have hk : mk r ≤ kU := by unfold mk kU; omega
  have hv : mg r / 2 ^ kU < 9007199254740992 := by
    rw [Nat.div_lt_iff_lt_mul un_pos, ← mg_c53]; exact mg_lt h
  have e : (FloatKind.f64.decode r).toInt .zero = some ((mg r / 2 ^ kU : Nat) : Int) := by
    show (double.read r).toInt .zero = _
    rw [read_fin r (by rw [rng_small (by omega)]; omega), fl_sgn_small (by omega), rng_small (by omega)]
    show some (signed false (Toward.zero.cut false (mm r <<< (-1074 + (mk r : Int)).toNat) (-(-1074 + (mk r : Int))).toNat) 0) = _
    rw [show (-1074 + (mk r : Int)).toNat = 0 by have := kU_eq; omega, Nat.shiftLeft_zero, show (-(-1074 + (mk r : Int))).toNat = kU - mk r by have := kU_eq; omega, cut_to_zero]
    show some (((mm r / 2 ^ (kU - mk r)) <<< 0 : Nat) : Int) = _
    rw [Nat.shiftLeft_zero]
    refine congrArg (fun t : Nat => some (t : Int)) ?_
    rw [mg_eq, un_split (mk r) hk, Nat.mul_div_mul_right _ _ (Nat.two_pow_pos _)]
  unfold floatToIntVal
  rw [e]
  have hb : IntKind.u64.min ≤ ((mg r / 2 ^ kU : Nat) : Int) ∧ ((mg r / 2 ^ kU : Nat) : Int) ≤ IntKind.u64.max := by
    generalize mg r / 2 ^ kU = n at *
    have e1 : IntKind.u64.min = 0 := by decide
    have e2 : IntKind.u64.max = 18446744073709551615 := by decide
    rw [e1, e2]; omega
  show (if _ then _ else _) = _
  rw [if_pos hb]

theorem end_one (r0 r p : Nat) (h : r + p * 4503599627370496 = r0) (hp : 0 < p) (h1 : 4841369599423283200 ≤ r) (h2 : r < 4845873199050653696) : mg r / 2 ^ kU = mm r0 ∧ (p : Int) = (mk r0 : Int) - 1074 := by
  have e : r = r0 - p * 4503599627370496 := by omega
  obtain ⟨s1, s2⟩ := mm_sub (r := r0) (p := p) (by omega)
  rw [← e] at s1 s2
  have hk : mk r = kU := by unfold mk kU; omega
  have hk0 : 1074 ≤ mk r0 := by unfold mk; omega
  rw [mg_eq, hk, Nat.mul_div_cancel _ un_pos, s1]
  have := kU_eq
  exact ⟨rfl, by omega⟩
theorem end_two (r0 r q : Nat) (h : mg r = mg r0 * 2 ^ q) (hq : q ≤ kU) (h2 : r < 4845873199050653696) (hx : 4841369599423283200 ≤ r ∨ q = kU) : mg r / 2 ^ kU = mm r0 ∧ -(q : Int) = (mk r0 : Int) - 1074 := by
  by_cases hr : 4841369599423283200 ≤ r
  · have hk : mk r = kU := by unfold mk kU; omega
    have hg := mm_ge r (by omega)
    have hl := mm_lt r
    have e := h
    rw [mg_eq r, hk] at e
    rw [mg_eq r, hk, Nat.mul_div_cancel _ un_pos]
    rw [mg_eq r0, Nat.mul_assoc, ← Nat.pow_add] at e
    have hl0 := mm_lt r0
    by_cases hn : r0 < 4503599627370496
    · exfalso
      have hmm : mm r0 = r0 := by unfold mm; rw [if_pos hn]
      have hmk : mk r0 = 0 := by unfold mk; omega
      rw [hmm, hmk, Nat.zero_add] at e
      have p1 : 2 ^ q ≤ 2 ^ kU := Nat.pow_le_pow_right (by omega) hq
      have p2 : r0 * 2 ^ q ≤ r0 * 2 ^ kU := Nat.mul_le_mul_left _ p1
      have p3 : r0 * 2 ^ kU < mm r * 2 ^ kU := Nat.mul_lt_mul_of_pos_right (by omega) un_pos
      omega
    · have hg0 := mm_ge r0 (by omega)
      have a1 : (mm r0 * 2 ^ (mk r0 + q)).log2 = 52 + (mk r0 + q) := by
        rw [log2_mul_pow _ _ (by omega), log2_52 hg0 hl0]
      have a2 : (mm r * 2 ^ kU).log2 = 52 + kU := by
        rw [log2_mul_pow _ _ (by omega), log2_52 hg hl]
      rw [← e, a2] at a1
      have a3 : mk r0 + q = kU := by omega
      rw [a3] at e
      have := kU_eq
      exact ⟨Nat.eq_of_mul_eq_mul_right un_pos e, by omega⟩
  · have hq' : q = kU := by omega
    subst hq'
    have hlt := mg_lt (show r < 4841369599423283200 by omega)
    rw [mg_c52, h] at hlt
    have hs : mg r0 < 4503599627370496 := Nat.lt_of_mul_lt_mul_right hlt
    have hr0 : r0 < 4503599627370496 := by
      rcases Nat.lt_or_ge r0 4503599627370496 with hc | hc
      · exact hc
      · have := mg_le hc
        rw [show mg 4503599627370496 = 4503599627370496 from by decide] at this
        omega
    rw [h, Nat.mul_div_cancel _ un_pos]
    unfold mg mm mk
    rw [if_pos hr0, if_pos hr0]
    have := kU_eq
    exact ⟨rfl, by omega⟩
end Go.Proofs.YtbeijnflfmjgfaaGreatDoor.Fl

namespace Go.Proofs.YtbeijnflfmjgfaaGreatDoor
open Go.RowKit

def fbits : Value → Nat
  | .float _ b => b
  | _ => 0
theorem half_run {P : Program} (w : World) (r : Nat) (h1 : 4845873199050653696 ≤ r) (h2 : r < 9218868437227405312) : (binOp .quo 119 (.float .f64 r) (.float .f64 4611686018427387904)).run P w = .ok (.float .f64 (r - 4503599627370496)) w :=
  run_float_arith w .quo 119 .f64 r 4611686018427387904 _ (Fl.div_two r h1 h2)
theorem geq_c53 (r : Nat) (h : r < 9218868437227405312) : (FloatKind.f64.format.order r 4845873199050653696 == some .gt || FloatKind.f64.format.order r 4845873199050653696 == some .eq) = decide (4845873199050653696 ≤ r) := by
  have h1 : Fl.rng r ≤ 9218868437227405312 := by rw [Fl.rng_small (by omega)]; omega
  have k1 : Fl.kv r = (r : Int) := by rw [kv_pos (Fl.fl_sgn_small (by omega)), Fl.rng_small (by omega)]
  have k2 : Fl.kv 4845873199050653696 = 4845873199050653696 := by decide
  rw [f64_format, Fl.key_gt r _ h1 (by decide), Fl.key_eq r _ h1 (by decide), k1, k2]
  rcases Nat.lt_trichotomy r 4845873199050653696 with h | h | h
  · rw [decide_eq_false (by omega), decide_eq_false (by omega), decide_eq_false (by omega)]; rfl
  · subst h; decide
  · rw [decide_eq_true (by omega), decide_eq_true (by omega : 4845873199050653696 ≤ r)]; rfl
theorem lss_c52 (r : Nat) (h : r < 9218868437227405312) : (FloatKind.f64.format.order r 4841369599423283200 == some .lt) = decide (r < 4841369599423283200) := by
  have h1 : Fl.rng r ≤ 9218868437227405312 := by rw [Fl.rng_small (by omega)]; omega
  have k1 : Fl.kv r = (r : Int) := by rw [kv_pos (Fl.fl_sgn_small (by omega)), Fl.rng_small (by omega)]
  have k2 : Fl.kv 4841369599423283200 = 4841369599423283200 := by decide
  rw [f64_format, Fl.key_lt r _ h1 (by decide), k1, k2]
  exact decide_eq_decide.2 (by omega)

theorem cls_fin (b : Nat) (h : Fl.rng b < 9218868437227405312) : ∃ k : Int, clsV b = k ∧ (k == 0) = false ∧ (k == 1) = false ∧ (k == 6) = false := by
  unfold clsV
  rw [if_neg (by omega), if_neg (by omega)]
  split <;> split
  · exact ⟨_, rfl, rfl, rfl, rfl⟩
  · exact ⟨_, rfl, rfl, rfl, rfl⟩
  · exact ⟨_, rfl, rfl, rfl, rfl⟩
  · exact ⟨_, rfl, rfl, rfl, rfl⟩

theorem und23 : (Tryz.prog.underlying 119).isSome = true := by rw [Tryz.underlying119]; rfl
theorem ret3 {v : Value} {k k' : IntKind} {a b c d : Int} (h : a = b) (h' : c = d) : Ending.returned (.tuple #[v, .int k a, .int k' c]) = .returned (.tuple #[v, .int k b, .int k' d]) := by rw [h, h']

set_option maxRecDepth 100000 in
set_option maxHeartbeats 1000000 in
theorem parts_fin (b : Nat) (w : World) (hb : b < 18446744073709551616) (h : Fl.rng b < 9218868437227405312) :
    Calls Tryz.prog 174 #[.float .f64 b] w fun e w' => e = .returned (.tuple #[.bool (Fl.sgn b), .int .u64 (Fl.mm (Fl.rng b) : Int), .int .i64 ((Fl.mk (Fl.rng b) : Int) - 1074)]) ∧ w' = w := by
  obtain ⟨k, hk, k0, k1, k6⟩ := cls_fin b h
  have HB := hide hb
  have HK := hide hk
  have HA := hide (abs_any b w hb)
  clear hb hk
  go_enter Tryz.func174, Tryz.ntmps174
  go_wp2_with fail
  refine (signbit_any b _).mono ?_
  rintro e w1 ⟨rfl, rfl⟩
  go_wp2_with fail
  refine (clsof_any b _ (unhide HB)).mono ?_
  rintro e w2 ⟨rfl, rfl⟩
  rw [unhide HK]
  go_wp2_with fail
  refine (unhide HA).mono ?_
  rintro e w3 ⟨rfl, rfl⟩
  obtain ⟨r0, hr0⟩ : ∃ r0, Fl.rng b = r0 := ⟨_, rfl⟩
  rw [hr0] at h ⊢
  have HR := hide hr0
  clear hr0
  go_wp2_with fail
  go_loop [6, 7] (fun f p => ∃ r q : Nat, f = .float .f64 r ∧ p = .int .i64 (q : Int) ∧ r + q * 4503599627370496 = r0 ∧ (q = 0 ∨ 4841369599423283200 ≤ r)) (fun f _ => fbits f)
  case atStart => exact ⟨r0, 0, rfl, rfl, by omega, Or.inl rfl⟩
  case round =>
    obtain ⟨r, q, rfl, rfl, hrq, hor⟩ := hrel
    have hr : r < 9218868437227405312 := by omega
    have hq : q ≤ 2047 := by omega
    have eg := geq_c53 r hr
    by_cases hc : 4845873199050653696 ≤ r
    · rw [decide_eq_true hc] at eg
      obtain ⟨r', hr'⟩ : ∃ r', r - 4503599627370496 = r' := ⟨_, rfl⟩
      have ed := half_run (P := Tryz.prog) w3 r hc hr
      rw [hr'] at ed
      have H : Hid (4845873199050653696 ≤ r ∧ r' + (q + 1) * 4503599627370496 = r0 ∧ r' < r ∧ 4841369599423283200 ≤ r') := hide (by omega)
      clear hc hrq hor hr h hr'
      go_wp2
      go_round
      case rel => exact ⟨r', q + 1, rfl, by go_num, (unhide H).2.1, Or.inr (unhide H).2.2.2⟩
      case measure => exact (unhide H).2.2.1
    · rw [decide_eq_false hc] at eg
      have H := hide (And.intro hc (And.intro hrq (And.intro hor h)))
      clear hc hrq hor h
      rcases Nat.eq_zero_or_pos q with hq0 | hq0
      · subst hq0
        have HQ : Hid (r = r0 ∧ r < 4845873199050653696) := hide (by have := unhide H; omega)
        clear H hq
        go_wp2_with fail
        clear eg
        go_loop [6, 7] (fun f p => ∃ s t : Nat, f = .float .f64 s ∧ p = .int .i64 (-(t : Int)) ∧ t ≤ 1074 ∧ s < 4845873199050653696 ∧ Hid (Fl.mg s = Fl.mg r0 * 2 ^ t)) (fun _ p => (intOf p + 1074).toNat)
        case atStart => exact ⟨r, 0, rfl, rfl, by omega, (unhide HQ).2, hide (by rw [(unhide HQ).1, Nat.pow_zero, Nat.mul_one])⟩
        case round =>
          obtain ⟨s, t, rfl, rfl, ht, hs, HM⟩ := hrel
          have el := lss_c52 s (by omega)
          by_cases hc : s < 4841369599423283200
          · rw [decide_eq_true hc] at el
            by_cases ht' : t < 1074
            · obtain ⟨s', e1, e2, e3⟩ := Fl.dbl s hc
              have ed := run_float_arith (P := Tryz.prog) w3 .mul 119 .f64 s 4611686018427387904 s' e1
              have H2 : Hid (Fl.mg s' = Fl.mg r0 * 2 ^ (t + 1)) := hide (by rw [e2, unhide HM, Nat.pow_succ, Nat.mul_comm 2, Nat.mul_assoc])
              have H3 := hide (And.intro e3 hs)
              clear e1 e2 e3 hs
              go_wp2
              go_round
              case rel => exact ⟨s', t + 1, rfl, by go_num, by omega, (unhide H3).1, H2⟩
              case measure => simp [intOf]; omega
            · have ht2 : t = 1074 := by omega
              have HE := hide (Fl.end_two r0 s t (unhide HM) (by rw [Fl.kU_eq]; exact ht) hs (Or.inr ht2))
              have ew := run_convert_float_int (P := Tryz.prog) w3 119 112 .f64 .u64 s _ und23 Tryz.underlying112 (Fl.whole_part s hs)
              rw [(unhide HE).1] at ew
              have HT := hide ht2
              have et : (-(t : Int) > -1074) = False := by rw [eq_iff_iff, iff_false]; omega
              clear ht2 ht ht'
              go_wp2
              go_ret3
              exact ⟨ret3 (by rw [unhide HR]) (by have h1 := (unhide HE).2; rw [unhide HR]; exact h1), rfl⟩
          · rw [decide_eq_false hc] at el
            have HE := hide (Fl.end_two r0 s t (unhide HM) (by rw [Fl.kU_eq]; exact ht) hs (Or.inl (by omega)))
            have ew := run_convert_float_int (P := Tryz.prog) w3 119 112 .f64 .u64 s _ und23 Tryz.underlying112 (Fl.whole_part s hs)
            rw [(unhide HE).1] at ew
            clear hc hs
            go_wp2
            go_ret3
            exact ⟨ret3 (by rw [unhide HR]) (by have h1 := (unhide HE).2; rw [unhide HR]; exact h1), rfl⟩
      · have hx : 4841369599423283200 ≤ r ∧ r < 4845873199050653696 := by have := unhide H; omega
        have HE := hide (Fl.end_one r0 r q (unhide H).2.1 hq0 hx.1 hx.2)
        have ew := run_convert_float_int (P := Tryz.prog) w3 119 112 .f64 .u64 r _ und23 Tryz.underlying112 (Fl.whole_part r hx.2)
        rw [(unhide HE).1] at ew
        have el := lss_c52 r hr
        rw [decide_eq_false (by omega)] at el
        clear hx hr
        go_wp2_with fail
        clear eg
        refine wp_loop_rounds 1 ?_
        rw [rounds_succ]
        go_wp2
        go_ret3
        exact ⟨ret3 (by rw [unhide HR]) (by have h1 := (unhide HE).2; rw [unhide HR]; exact h1), rfl⟩
end Go.Proofs.YtbeijnflfmjgfaaGreatDoor

namespace Go.Proofs.YtbeijnflfmjgfaaGreatDoor
open Go.RowKit

def wideV (n : Nat) : Value := .agg #[.int .u64 ((n / 18446744073709551616 : Nat) : Int), .int .u64 ((n % 18446744073709551616 : Nat) : Int)]
theorem info55 : (Tryz.prog.info? 146).map (·.size) = some 2 := by kernel_rfl
theorem below_two (w : World) (o p : Obj) : Below w.heap.size w ((w.alloc o).alloc p) := (below_alloc w o).alloc (by simp) _

set_option maxHeartbeats 400000 in
theorem product_any (x y : Nat) (w : World) (hx : x < 18446744073709551616) (hy : y < 18446744073709551616) :
    Calls Tryz.prog 139 #[.int .u64 (x : Int), .int .u64 (y : Int)] w fun e w' => e = .returned (wideV (x * y)) ∧ Below w.heap.size w w' := by
  unfold wideV
  go_enter Tryz.func139, Tryz.ntmps139
  go_wp2_with fail
  refine (Tryz.bits_Mul64 x y hx hy _).mono ?_
  rintro e w' ⟨rfl, rfl⟩
  generalize hhi : ((x * y / 18446744073709551616 : Nat) : Int) = hi at *
  generalize hlo : ((x * y % 18446744073709551616 : Nat) : Int) = lo at *
  have H := hide (And.intro hhi hlo)
  clear hhi hlo
  go_wp2
  refine bodyPost_ret (results_cell_row rfl _ _ _ _ _ _ _ rfl (heap_alloc_new _ _) Tryz.underlying146 rfl info55) rfl ?_
  exact ⟨by rw [(unhide H).1, (unhide H).2], below_alloc _ _⟩

theorem agg_eq {a b c d : Int} (h : a = b) (h' : c = d) : Ending.returned (.agg #[.int .u64 a, .int .u64 c]) = .returned (.agg #[.int .u64 b, .int .u64 d]) := by rw [h, h']

set_option maxHeartbeats 1000000 in
theorem shifted_far (h l n : Int) (w : World) (hn : 64 ≤ n) (hn2 : n ≤ 2000) :
    Calls Tryz.prog 188 #[.agg #[.int .u64 h, .int .u64 l], .int .i64 n] w fun e w' => e = .returned (.agg #[.int .u64 0, .int .u64 (h / 2 ^ min (n - 64).toNat 64)]) ∧ Below w.heap.size w w' := by
  go_enter Tryz.func188, Tryz.ntmps188
  go_wp2
  refine bodyPost_ret (results_cell_row rfl _ _ _ _ _ _ _ rfl (heap_alloc2_new _ _ _) Tryz.underlying146 rfl info55) rfl ?_
  exact ⟨rfl, below_two _ _ _⟩

theorem heap_drew2 (w : World) (A B : Obj) : ((w.alloc A).alloc B).drew.heap[w.heap.size + 1]? = some B := heap_alloc2_new w A B

set_option maxHeartbeats 1000000 in
theorem shifted_near (h l n : Int) (w : World) (hn : 0 ≤ n) (hn2 : n < 64) :
    Calls Tryz.prog 188 #[.agg #[.int .u64 h, .int .u64 l], .int .i64 n] w fun e w' => e = .returned (.agg #[.int .u64 (h / 2 ^ n.toNat), .int .u64 (bits .or .u64 (IntKind.u64.wrap (h * 2 ^ (64 - n).toNat)) (l / 2 ^ n.toNat))]) ∧ Below w.heap.size w w' := by
  go_enter Tryz.func188, Tryz.ntmps188
  go_wp2
  go_region
  go_wp2
  refine bodyPost_ret (results_cell_row rfl _ _ _ _ _ _ _ rfl (heap_drew2 _ _ _) Tryz.underlying146 rfl info55) rfl ?_
  exact ⟨rfl, (below_two _ _ _).drew⟩

theorem shift_parts (n k : Nat) (hk : k < 64) : n / 2 ^ k / 18446744073709551616 = n / 18446744073709551616 / 2 ^ k ∧
    n / 2 ^ k % 18446744073709551616 = (n / 18446744073709551616 % 2 ^ k) * 2 ^ (64 - k) + n % 18446744073709551616 / 2 ^ k ∧ n % 18446744073709551616 / 2 ^ k < 2 ^ (64 - k) ∧
    n / 18446744073709551616 * 2 ^ (64 - k) % 18446744073709551616 = (n / 18446744073709551616 % 2 ^ k) * 2 ^ (64 - k) ∧ (n / 18446744073709551616 % 2 ^ k) * 2 ^ (64 - k) < 18446744073709551616 := by
  have p : 0 < 2 ^ k := Nat.two_pow_pos k
  have q : 0 < 2 ^ (64 - k) := Nat.two_pow_pos _
  have e : 2 ^ k * 2 ^ (64 - k) = 18446744073709551616 := by rw [← Nat.pow_add, show k + (64 - k) = 64 by omega]
  obtain ⟨h, hh⟩ : ∃ h, n / 18446744073709551616 = h := ⟨_, rfl⟩
  obtain ⟨l, hl⟩ : ∃ l, n % 18446744073709551616 = l := ⟨_, rfl⟩
  have hn : n = h * 18446744073709551616 + l := by omega
  have hl2 : l < 18446744073709551616 := by omega
  rw [hh, hl]
  have b1 : l / 2 ^ k < 2 ^ (64 - k) := by
    rw [Nat.div_lt_iff_lt_mul p, Nat.mul_comm, e]; exact hl2
  have b2 : h % 2 ^ k < 2 ^ k := Nat.mod_lt _ p
  have b3 : (h % 2 ^ k + 1) * 2 ^ (64 - k) ≤ 2 ^ k * 2 ^ (64 - k) := Nat.mul_le_mul_right _ b2
  rw [e, Nat.add_mul, Nat.one_mul] at b3
  have d1 : n / 2 ^ k = h * 2 ^ (64 - k) + l / 2 ^ k := by
    rw [hn, ← e, show h * (2 ^ k * 2 ^ (64 - k)) + l = l + 2 ^ k * (h * 2 ^ (64 - k)) from by
      rw [Nat.add_comm, Nat.mul_left_comm], Nat.add_mul_div_left _ _ p, Nat.add_comm]
  have d2 : h * 2 ^ (64 - k) = (h / 2 ^ k) * 18446744073709551616 + (h % 2 ^ k) * 2 ^ (64 - k) := by
    rw [← e, ← Nat.mul_assoc, ← Nat.add_mul, Nat.mul_comm (h / 2 ^ k), Nat.div_add_mod]
  generalize h % 2 ^ k * 2 ^ (64 - k) = z at *
  generalize h / 2 ^ k = y at *
  generalize l / 2 ^ k = x at *
  generalize h * 2 ^ (64 - k) = u at *
  generalize 2 ^ (64 - k) = t at *
  rw [d1, d2]
  refine ⟨by omega, by omega, b1, by omega, by omega⟩

theorem fl_shift_or (h l k : Nat) (n : Nat) (hk : k < 64) (hh : h = n / 18446744073709551616) (hl : l = n % 18446744073709551616) :
    bits .or .u64 (IntKind.u64.wrap ((h : Int) * 2 ^ (64 - (k : Int)).toNat)) ((l : Int) / 2 ^ (k : Int).toNat) = ((n / 2 ^ k % 18446744073709551616 : Nat) : Int) := by
  obtain ⟨_, e2, e3, e4, e5⟩ := shift_parts n k hk
  rw [← hh, ← hl] at e2
  rw [← hl] at e3
  rw [← hh] at e4 e5
  have c1 : IntKind.u64.wrap ((h : Int) * 2 ^ (64 - (k : Int)).toNat) = ((h % 2 ^ k * 2 ^ (64 - k) : Nat) : Int) := by
    rw [IntKind.wrap_u64, ← e4, show (64 - (k : Int)).toNat = 64 - k by omega, Int.natCast_emod, Int.natCast_mul, Int.natCast_pow]
    rfl
  have c2 : (l : Int) / 2 ^ (k : Int).toNat = ((l / 2 ^ k : Nat) : Int) := by
    rw [Int.toNat_natCast]; norm_cast
  have e6 : l / 2 ^ k < 18446744073709551616 := Nat.lt_of_lt_of_le e3 (by
    have : 2 ^ (64 - k) ≤ 2 ^ 64 := Nat.pow_le_pow_right (by omega) (by omega)
    exact this)
  have hu := u64_or ((h % 2 ^ k * 2 ^ (64 - k) : Nat) : Int) ((l / 2 ^ k : Nat) : Int) (Int.natCast_nonneg _) (Int.ofNat_lt.2 e5) (Int.natCast_nonneg _) (Int.ofNat_lt.2 e6)
  rw [c1, c2, hu, Int.toNat_natCast, Int.toNat_natCast, e2, Nat.mul_comm, Nat.two_pow_add_eq_or_of_lt e3]

theorem shifted_any (n k : Nat) (w : World) (hk : k ≤ 2000) (hn : n < 340282366920938463463374607431768211456) :
    Calls Tryz.prog 188 #[wideV n, .int .i64 (k : Int)] w fun e w' => e = .returned (wideV (n / 2 ^ k)) ∧ Below w.heap.size w w' := by
  unfold wideV
  rcases Nat.lt_or_ge k 64 with h | h
  · refine (shifted_near _ _ (k : Int) w (by omega) (by omega)).mono ?_
    rintro e w' ⟨rfl, hb⟩
    refine ⟨agg_eq ?_ ?_, hb⟩
    · rw [(shift_parts n k h).1, Int.toNat_natCast]; norm_cast
    · exact fl_shift_or _ _ k n h rfl rfl
  · refine (shifted_far _ _ (k : Int) w (by omega) (by omega)).mono ?_
    rintro e w' ⟨rfl, hb⟩
    have e1 : n / 2 ^ k = n / 18446744073709551616 / 2 ^ (k - 64) := by
      rw [Nat.div_div_eq_div_mul, show (18446744073709551616 : Nat) = 2 ^ 64 from by decide, ← Nat.pow_add, show 64 + (k - 64) = k by omega]
    have e2 : n / 18446744073709551616 < 18446744073709551616 := by omega
    obtain ⟨m, hm⟩ : ∃ m, n / 18446744073709551616 = m := ⟨_, rfl⟩
    rw [e1, hm]
    rw [hm] at e2
    have e3 : m / 2 ^ min (k - 64) 64 = m / 2 ^ (k - 64) := by
      rcases Nat.le_total (k - 64) 64 with h1 | h1
      · rw [Nat.min_eq_left h1]
      · rw [Nat.min_eq_right h1]
        have : 2 ^ 64 ≤ 2 ^ (k - 64) := Nat.pow_le_pow_right (by omega) h1
        rw [Nat.div_eq_of_lt (by omega), Nat.div_eq_of_lt (by omega)]
    have e4 : m / 2 ^ (k - 64) ≤ m := Nat.div_le_self _ _
    refine ⟨agg_eq ?_ ?_, hb⟩
    · rw [Nat.div_eq_of_lt (by omega)]; rfl
    · rw [Nat.mod_eq_of_lt (by omega), ← e3, show ((k : Int) - 64).toNat = k - 64 by omega]; norm_cast
end Go.Proofs.YtbeijnflfmjgfaaGreatDoor

namespace Go.Proofs.YtbeijnflfmjgfaaGreatDoor
open Go.RowKit

theorem call_add (x : Int) (h0 : 0 ≤ x) (w : World) : (callFunc 189 #[.int .u64 x, .int .u64 1, .int .u64 0]).run Tryz.prog w = .ok (.value (.tuple #[.int .u64 ((x + 1 + 0) % 18446744073709551616), .int .u64 ((x + 1 + 0) / 18446744073709551616)])) w := by
  have h := run_callFunc_extern (e := add64Entry) Tryz.func189 (by kernel_rfl) (by kernel_rfl) (by kernel_rfl) (by kernel_rfl) #[.int .u64 x, .int .u64 1, .int .u64 0] w
  rw [h, run_add64 x 1 0 h0 (by omega) (by omega) (by omega)]
  rfl

def Two (n : Nat) (h l : Int) : Prop := h = ((n / 18446744073709551616 : Nat) : Int) ∧ l = ((n % 18446744073709551616 : Nat) : Int)
theorem wide_two {n : Nat} {h l : Int} (t : Two n h l) : wideV n = .agg #[.int .u64 h, .int .u64 l] := by
  unfold wideV; rw [t.1, t.2]
theorem two_ex (n : Nat) : ∃ h l, Two n h l := ⟨_, _, rfl, rfl⟩

theorem shifted_two (n k : Nat) (h l kk : Int) (w : World) (ht : Two n h l) (hkk : kk = (k : Int)) (hk : k ≤ 2000) (hn : n < 340282366920938463463374607431768211456) :
    Calls Tryz.prog 188 #[.agg #[.int .u64 h, .int .u64 l], .int .i64 kk] w fun e w' => (∃ h' l', e = .returned (.agg #[.int .u64 h', .int .u64 l']) ∧ Hid (Two (n / 2 ^ k) h' l')) ∧ Below w.heap.size w w' := by
  rw [← wide_two ht, hkk]
  refine (shifted_any n k w hk hn).mono ?_
  rintro e w' ⟨rfl, hb⟩
  obtain ⟨h', l', t⟩ := two_ex (n / 2 ^ k)
  exact ⟨⟨h', l', by rw [wide_two t], hide t⟩, hb⟩

theorem two_next {m : Nat} {h l : Int} (t : Two m h l) (hm : m < 170141183460469231731687303715884105728) : Two (m + 1) (IntKind.u64.wrap (h + (l + 1) / 18446744073709551616)) ((l + 1) % 18446744073709551616) := by
  obtain ⟨rfl, rfl⟩ := t
  refine ⟨?_, by omega⟩
  rw [IntKind.wrap_u64]; omega
def PairAt (w : World) (B : Nat) (a b : Value) : Prop := w.heap[B]? = some (.cells #[a, b] 146 (0, 0))
theorem pair_c0 {w : World} {B : Nat} {a b : Value} (h : PairAt w B a b) : w.cell? ⟨B, 0, none⟩ = some a := by
  unfold PairAt at h; simp [World.cell?, h]
theorem pair_c1 {w : World} {B : Nat} {a b : Value} (h : PairAt w B a b) : w.cell? ⟨B, 1, none⟩ = some b := by
  unfold PairAt at h; simp [World.cell?, h]
theorem pair_f {w : World} {B : Nat} {a b : Value} (h : PairAt w B a b) (i : Nat) : w.frozen? ⟨B, i, none⟩ = false := by
  unfold PairAt at h; simp [World.frozen?, h]
theorem pair_set {w : World} {B : Nat} {a b : Value} (h : PairAt w B a b) (x y : Value) : PairAt ((w.setCell ⟨B, 0, none⟩ x).setCell ⟨B, 1, none⟩ y) B x y := by
  unfold PairAt at h ⊢
  rw [heap_setCell_same _ B 1 #[x, b] 146 y (by rw [heap_setCell_same w B 0 #[a, b] 146 x h]; rfl)]; rfl
theorem pair_below {w w' : World} {B N : Nat} {a b : Value} (h : PairAt w B a b) (hb : Below N w w') (hB : B < N) : PairAt w' B a b := by
  unfold PairAt at h ⊢; rw [hb.block B hB]; exact h
theorem pair_alloc {w : World} {B : Nat} {a b : Value} (h : PairAt w B a b) (o : Obj) : PairAt (w.alloc o) B a b := by
  unfold PairAt at h ⊢
  have : B < w.heap.size := by
    rcases Nat.lt_or_ge B w.heap.size with h1 | h1
    · exact h1
    · rw [Array.getElem?_eq_none h1] at h; cases h
  rw [Below.heap_alloc w o B this]; exact h
theorem pair_new (w : World) (a b : Value) : PairAt (w.alloc (.cells #[a, b] 146)) w.heap.size a b := heap_alloc_new _ _
theorem pair_new2 (w : World) (o : Obj) (a b : Value) : PairAt ((w.alloc o).alloc (.cells #[a, b] 146)) (w.heap.size + 1) a b := heap_alloc2_new _ _ _

set_option maxHeartbeats 1000000 in
theorem rounded_any (n k : Nat) (w : World) (hk1 : 1 ≤ k) (hk : k ≤ 2000) (hn : n < 170141183460469231731687303715884105728) :
    Calls Tryz.prog 175 #[wideV n, .int .i64 (k : Int)] w fun e w' => e = .returned (wideV ((n / 2 ^ (k - 1) + 1) / 2)) ∧ Below w.heap.size w w' := by
  obtain ⟨h, l, T⟩ := two_ex n
  rw [wide_two T]
  have hs : n / 2 ^ (k - 1) ≤ n := Nat.div_le_self _ _
  obtain ⟨m, hm⟩ : ∃ m, n / 2 ^ (k - 1) = m := ⟨_, rfl⟩
  rw [hm] at hs ⊢
  have HM := hide hm
  have HT := hide T
  have HN := hide (And.intro hn hs)
  clear hm T hn hs
  go_enter Tryz.func175, Tryz.ntmps175
  go_wp2_with fail
  refine (shifted_two n (k - 1) _ _ _ _ (unhide HT) (by omega) (by omega) (by have := (unhide HN).1; omega)).mono ?_
  rintro e w' ⟨⟨h', l', rfl, HT'⟩, hb⟩
  rw [unhide HM] at HT'
  have h0 : 0 ≤ l' := by rw [(unhide HT').2]; exact Int.natCast_nonneg _
  have hc := call_add l' h0
  go_wp2_with fail
  refine (shifted_two (m + 1) 1 _ _ _ _ (two_next (unhide HT') (by have := unhide HN; omega)) rfl (by omega) (by have := unhide HN; omega)).mono ?_
  rintro e w3 ⟨⟨h2, l2, rfl, HT2⟩, hb2⟩
  rw [Nat.pow_one] at HT2
  have hp := pair_below (pair_alloc (pair_below (pair_new2 w (.cells #[.int .u64 h, .int .u64 l] 146) (.int .u64 0) (.int .u64 0)) hb (by simp)) (.cells #[.int .u64 h', .int .u64 l'] 146)) hb2 (by simp; have := hb.size; simp at this; omega)
  have c0 := pair_c0 hp
  have c1 := pair_c1 hp
  have f0 := pair_f hp 0
  have f1 := pair_f hp 1
  have HP := hide hp
  have HBB := hide (And.intro hb hb2)
  clear hp hb hb2 hc
  go_wp2
  refine bodyPost_ret (results_cell_row rfl _ _ _ _ _ _ _ rfl (pair_set (unhide HP) _ _) Tryz.underlying146 rfl info55) rfl ?_
  obtain ⟨hb, hb2⟩ := unhide HBB
  refine ⟨by rw [wide_two (unhide HT2)], ?_⟩
  have h1 : Below w.heap.size w w' := (below_two _ _ _).trans (hb.mono (by simp; omega))
  have h2 : Below w.heap.size w w3 := (h1.alloc (h1.size) _).trans (hb2.mono (by have := h1.size; simp; omega))
  exact (h2.setCell (by simp) _).setCell (by simp) _
end Go.Proofs.YtbeijnflfmjgfaaGreatDoor

namespace Go.Proofs.YtbeijnflfmjgfaaGreatDoor
open Go.RowKit

set_option maxHeartbeats 1000000 in
theorem order_same (h l : Int) (w : World) :
    Calls Tryz.prog 140 #[.agg #[.int .u64 h, .int .u64 l], .agg #[.int .u64 h, .int .u64 l]] w fun e w' => e = .returned (.int .i64 0) ∧ Below w.heap.size w w' := by
  go_enter Tryz.func140, Tryz.ntmps140
  go_wp2
  go_ret
  exact ⟨rfl, below_two _ _ _⟩
set_option maxHeartbeats 1000000 in
theorem order_h (h l h' l' : Int) (w : World) (hne : (h == h') = false) :
    Calls Tryz.prog 140 #[.agg #[.int .u64 h, .int .u64 l], .agg #[.int .u64 h', .int .u64 l']] w fun e w' => e = .returned (.int .i64 (if h < h' then -1 else 1)) ∧ Below w.heap.size w w' := by
  by_cases hc : h < h'
  · rw [if_pos hc]
    go_enter Tryz.func140, Tryz.ntmps140
    go_wp2
    go_ret
    exact ⟨rfl, below_two _ _ _⟩
  · rw [if_neg hc]
    have hd : decide (h < h') = false := decide_eq_false hc
    go_enter Tryz.func140, Tryz.ntmps140
    go_wp2
    go_ret
    exact ⟨rfl, below_two _ _ _⟩
set_option maxHeartbeats 1000000 in
theorem order_l (h l l' : Int) (w : World) (hne : (l == l') = false) :
    Calls Tryz.prog 140 #[.agg #[.int .u64 h, .int .u64 l], .agg #[.int .u64 h, .int .u64 l']] w fun e w' => e = .returned (.int .i64 (if l < l' then -1 else 1)) ∧ Below w.heap.size w w' := by
  by_cases hc : l < l'
  · rw [if_pos hc]
    go_enter Tryz.func140, Tryz.ntmps140
    go_wp2
    go_ret
    exact ⟨rfl, below_two _ _ _⟩
  · rw [if_neg hc]
    have hd : decide (l < l') = false := decide_eq_false hc
    go_enter Tryz.func140, Tryz.ntmps140
    go_wp2
    go_ret
    exact ⟨rfl, below_two _ _ _⟩

def ordV (n m : Nat) : Int := if n = m then 0 else if n < m then -1 else 1
theorem order_two (n m : Nat) (h l h' l' : Int) (w : World) (t : Two n h l) (t' : Two m h' l') :
    Calls Tryz.prog 140 #[.agg #[.int .u64 h, .int .u64 l], .agg #[.int .u64 h', .int .u64 l']] w fun e w' => e = .returned (.int .i64 (ordV n m)) ∧ Below w.heap.size w w' := by
  obtain ⟨rfl, rfl⟩ := t
  obtain ⟨rfl, rfl⟩ := t'
  unfold ordV
  by_cases e1 : n / 18446744073709551616 = m / 18446744073709551616
  · rw [e1]
    by_cases e2 : n % 18446744073709551616 = m % 18446744073709551616
    · rw [e2, if_pos (by omega)]
      exact order_same _ _ w
    · refine (order_l _ _ _ w (by rw [beq_eq_false_iff_ne]; omega)).mono ?_
      rintro e w' ⟨rfl, hb⟩
      refine ⟨ret_int ?_, hb⟩
      rw [if_neg (by omega : ¬ n = m)]
      by_cases h : n < m
      · rw [if_pos h, if_pos (by omega)]
      · rw [if_neg h, if_neg (by omega)]
  · refine (order_h _ _ _ _ w (by rw [beq_eq_false_iff_ne]; omega)).mono ?_
    rintro e w' ⟨rfl, hb⟩
    refine ⟨ret_int ?_, hb⟩
    rw [if_neg (by omega : ¬ n = m)]
    by_cases h : n < m
    · rw [if_pos h, if_pos (by omega)]
    · rw [if_neg h, if_neg (by omega)]
theorem product_two (x y : Nat) (a b : Int) (w : World) (ha : a = (x : Int)) (hb : b = (y : Int)) (hx : x < 18446744073709551616) (hy : y < 18446744073709551616) :
    Calls Tryz.prog 139 #[.int .u64 a, .int .u64 b] w fun e w' => (∃ h l, e = .returned (.agg #[.int .u64 h, .int .u64 l]) ∧ Hid (Two (x * y) h l)) ∧ Below w.heap.size w w' := by
  rw [ha, hb]
  refine (product_any x y w hx hy).mono ?_
  rintro e w' ⟨rfl, hb⟩
  obtain ⟨h, l, t⟩ := two_ex (x * y)
  exact ⟨⟨h, l, by rw [wide_two t], hide t⟩, hb⟩
theorem rounded_two (n k : Nat) (h l kk : Int) (w : World) (t : Two n h l) (hkk : kk = (k : Int)) (hk1 : 1 ≤ k) (hk : k ≤ 2000) (hn : n < 170141183460469231731687303715884105728) :
    Calls Tryz.prog 175 #[.agg #[.int .u64 h, .int .u64 l], .int .i64 kk] w fun e w' => (∃ h' l', e = .returned (.agg #[.int .u64 h', .int .u64 l']) ∧ Hid (Two ((n / 2 ^ (k - 1) + 1) / 2) h' l')) ∧ Below w.heap.size w w' := by
  rw [← wide_two t, hkk]
  refine (rounded_any n k w hk1 hk hn).mono ?_
  rintro e w' ⟨rfl, hb⟩
  obtain ⟨h', l', t⟩ := two_ex ((n / 2 ^ (k - 1) + 1) / 2)
  exact ⟨⟨h', l', by rw [wide_two t], hide t⟩, hb⟩
end Go.Proofs.YtbeijnflfmjgfaaGreatDoor

namespace Go.Proofs.YtbeijnflfmjgfaaGreatDoor
open Go.RowKit

def frq (r : Nat) : Nat := (Fl.mg r * 20000 + 2 ^ Fl.kU) / 2 ^ (Fl.kU + 1)
def frN (b : Nat) : Int := if 9218868437227405312 ≤ Fl.rng b then 0 else if 9000000000000000000 < frq (Fl.rng b) then 0 else if Fl.sgn b = true then -(frq (Fl.rng b) : Int) else (frq (Fl.rng b) : Int)
def frE (b : Nat) : Int := if 9218868437227405312 < Fl.rng b then 4 else if Fl.rng b = 9218868437227405312 then 5 else if 9000000000000000000 < frq (Fl.rng b) then 5 else 0

theorem half_up (X k : Nat) : (X / 2 ^ k + 1) / 2 = (X + 2 ^ k) / (2 ^ k * 2) := by
  have p : 0 < 2 ^ k := Nat.two_pow_pos k
  rw [← Nat.div_div_eq_div_mul, Nat.add_div_right _ p]
theorem half_up2 (M k : Nat) : (M * 10000 / 2 ^ k + 1) / 2 = (M * 20000 + 2 ^ (k + 1)) / 2 ^ (k + 1 + 1) := by
  have e : M * 20000 = M * 10000 * 2 := by omega
  rw [half_up, e]
  generalize M * 10000 = X
  rw [Nat.pow_succ 2 (k + 1), Nat.pow_succ 2 k, ← Nat.add_mul, Nat.mul_div_mul_right _ _ (by omega)]
theorem fl_below_then {w a b : World} (h : Below w.heap.size w a) (k : Below a.heap.size a b) : Below w.heap.size w b := h.trans (k.mono h.size)
theorem frq_near (r : Nat) (n : Nat) (h : n + Fl.mk r = Fl.kU) (hn : 1 ≤ n) : (Fl.mm r * 10000 / 2 ^ (n - 1) + 1) / 2 = frq r := by
  unfold frq
  rw [Fl.mg_eq, ← h, show n + Fl.mk r + 1 = n + 1 + Fl.mk r by omega, Nat.pow_add 2 n, Nat.pow_add 2 (n + 1)]
  have e1 : Fl.mm r * 2 ^ Fl.mk r * 20000 + 2 ^ n * 2 ^ Fl.mk r = (Fl.mm r * 20000 + 2 ^ n) * 2 ^ Fl.mk r := by
    rw [Nat.add_mul, Nat.mul_right_comm]
  rw [e1, Nat.mul_div_mul_right _ _ (Nat.two_pow_pos _)]
  obtain ⟨k, rfl⟩ : ∃ k, n = k + 1 := ⟨n - 1, by omega⟩
  rw [Nat.add_sub_cancel]
  exact half_up2 _ _
theorem frq_great (r : Nat) (h : Fl.kU ≤ Fl.mk r) : 9000000000000000000 < frq r := by
  unfold frq
  have h1 : Fl.mk r ≠ 0 := by have := Fl.kU_eq; omega
  have h2 : 4503599627370496 ≤ r := by unfold Fl.mk at h1; omega
  have h3 := Fl.mm_ge r h2
  have p : 0 < 2 ^ Fl.kU := Fl.un_pos
  have h4 : 2 ^ Fl.kU ≤ 2 ^ Fl.mk r := Nat.pow_le_pow_right (by omega) h
  have h5 : 4503599627370496 * 2 ^ Fl.kU ≤ Fl.mg r := by
    rw [Fl.mg_eq]; exact Nat.mul_le_mul h3 h4
  have h6 : 9000000000000000001 * 2 ^ (Fl.kU + 1) ≤ Fl.mg r * 20000 + 2 ^ Fl.kU := by
    rw [Nat.pow_succ]; generalize 2 ^ Fl.kU = u at *; omega
  have h7 := (Nat.le_div_iff_mul_le (Nat.two_pow_pos (Fl.kU + 1))).2 h6
  generalize (Fl.mg r * 20000 + 2 ^ Fl.kU) / 2 ^ (Fl.kU + 1) = z at *
  omega

theorem cls_cases (b : Nat) : (9218868437227405312 < Fl.rng b ∧ clsV b = 0) ∨ (Fl.rng b = 9218868437227405312 ∧ (clsV b = 1 ∨ clsV b = 6)) ∨ Fl.rng b < 9218868437227405312 := by
  unfold clsV
  by_cases h1 : 9218868437227405312 < Fl.rng b
  · rw [if_pos h1]; exact Or.inl ⟨h1, rfl⟩
  · rw [if_neg h1]
    by_cases h2 : Fl.rng b = 9218868437227405312
    · rw [if_pos h2]; refine Or.inr (Or.inl ⟨h2, ?_⟩); cases Fl.sgn b
      · exact Or.inr rfl
      · exact Or.inl rfl
    · exact Or.inr (Or.inr (by omega))

theorem fl_raw_yes (a : Int) (w : World) (h : goodB a = true) :
    Calls Tryz.prog 56 #[.int .i64 a] w fun e w' => e = .returned (.tuple #[.int .i64 a, .int .i64 0]) ∧ Below w.heap.size w w' := by
  have := raw_any a w
  rw [h] at this
  exact this
theorem fl_raw_no (a : Int) (w : World) (h : goodB a = false) :
    Calls Tryz.prog 56 #[.int .i64 a] w fun e w' => e = .returned (.tuple #[.int .i64 0, .int .i64 5]) ∧ Below w.heap.size w w' := by
  have := raw_any a w
  rw [h] at this
  exact this

set_option maxHeartbeats 1000000 in
theorem from_bad (b : Nat) (w : World) (hb : b < 18446744073709551616) (h : 9218868437227405312 ≤ Fl.rng b) :
    Calls Tryz.prog 143 #[.float .f64 b] w fun e w' => e = .returned (.tuple #[.int .i64 (frN b), .int .i64 (frE b)]) ∧ w' = w := by
  unfold frN frE
  rw [if_pos h]
  have HB := hide hb
  clear hb
  rcases cls_cases b with ⟨h1, hc⟩ | ⟨h1, hc⟩ | h1
  · rw [if_pos h1]
    have HC := hide hc
    clear hc h h1
    go_enter Tryz.func143, Tryz.ntmps143
    go_wp2_with fail
    refine (clsof_any b _ (unhide HB)).mono ?_
    rintro e w2 ⟨rfl, rfl⟩
    rw [unhide HC]
    go_wp2
    go_ret2
    exact ⟨rfl, rfl⟩
  · rw [if_neg (by omega), if_pos h1]
    have HC := hide hc
    clear hc h h1
    go_enter Tryz.func143, Tryz.ntmps143
    go_wp2_with fail
    refine (clsof_any b _ (unhide HB)).mono ?_
    rintro e w2 ⟨rfl, rfl⟩
    rcases unhide HC with hc | hc
    · rw [hc]
      clear hc
      go_wp2
      go_ret2
      exact ⟨rfl, rfl⟩
    · rw [hc]
      clear hc
      go_wp2
      go_ret2
      exact ⟨rfl, rfl⟩
  · omega

set_option maxHeartbeats 1000000 in
theorem from_great (b : Nat) (w : World) (hb : b < 18446744073709551616) (h : Fl.rng b < 9218868437227405312) (hk : Fl.kU ≤ Fl.mk (Fl.rng b)) :
    Calls Tryz.prog 143 #[.float .f64 b] w fun e w' => e = .returned (.tuple #[.int .i64 0, .int .i64 5]) ∧ w' = w := by
  obtain ⟨k, hk', k0, k1, k6⟩ := cls_fin b h
  have hp : 0 ≤ (Fl.mk (Fl.rng b) : Int) - 1074 := by have := Fl.kU_eq; omega
  have HB := hide (And.intro hb h)
  have HK := hide hk'
  have HP := hide (parts_fin b w hb h)
  clear hb h hk hk'
  obtain ⟨p, hpp⟩ : ∃ p, (Fl.mk (Fl.rng b) : Int) - 1074 = p := ⟨_, rfl⟩
  rw [hpp] at hp HP
  clear hpp
  go_enter Tryz.func143, Tryz.ntmps143
  go_wp2_with fail
  refine (clsof_any b _ (unhide HB).1).mono ?_
  rintro e w2 ⟨rfl, rfl⟩
  rw [unhide HK]
  go_wp2_with fail
  refine (unhide HP).mono ?_
  rintro e w2 ⟨rfl, rfl⟩
  go_wp2
  go_ret2
  exact ⟨rfl, rfl⟩

theorem wrap64_id {a : Int} (h1 : -9223372036854775808 ≤ a) (h2 : a ≤ 9223372036854775807) : wrap64 a = a := by unfold wrap64; omega

set_option maxRecDepth 100000 in
set_option maxHeartbeats 2000000 in
theorem from_fin (b : Nat) (w : World) (hb : b < 18446744073709551616) (h : Fl.rng b < 9218868437227405312) (hk : Fl.mk (Fl.rng b) < Fl.kU) :
    Calls Tryz.prog 143 #[.float .f64 b] w fun e w' => e = .returned (.tuple #[.int .i64 (frN b), .int .i64 (frE b)]) ∧ Below w.heap.size w w' := by
  obtain ⟨k, hk', k0, k1, k6⟩ := cls_fin b h
  have hkU := Fl.kU_eq
  obtain ⟨n, hn⟩ : ∃ n, n + Fl.mk (Fl.rng b) = Fl.kU := ⟨Fl.kU - Fl.mk (Fl.rng b), by omega⟩
  have hq := frq_near (Fl.rng b) n hn (by omega)
  have hm := Fl.mm_lt (Fl.rng b)
  have hfN : frN b = if 9000000000000000000 < frq (Fl.rng b) then 0 else if Fl.sgn b = true then -(frq (Fl.rng b) : Int) else (frq (Fl.rng b) : Int) := by unfold frN; rw [if_neg (by omega)]
  have hfE : frE b = if 9000000000000000000 < frq (Fl.rng b) then 5 else 0 := by unfold frE; rw [if_neg (by omega), if_neg (by omega)]
  rw [hfN, hfE]
  have HP := hide (parts_fin b w hb h)
  have HB := hide (And.intro hb h)
  have HK := hide hk'
  obtain ⟨p, hpp⟩ : ∃ p, (Fl.mk (Fl.rng b) : Int) - 1074 = p := ⟨_, rfl⟩
  obtain ⟨m, hmm⟩ : ∃ m, Fl.mm (Fl.rng b) = m := ⟨_, rfl⟩
  obtain ⟨q, hqq⟩ : ∃ q, frq (Fl.rng b) = q := ⟨_, rfl⟩
  obtain ⟨s, hss⟩ : ∃ s, Fl.sgn b = s := ⟨_, rfl⟩
  have hp : p < 0 := by omega
  have hpn : -p = (n : Int) := by omega
  have hn1 : 1 ≤ n := by omega
  have hn2 : n ≤ 2000 := by omega
  rw [hmm] at hm
  rw [hmm, hqq] at hq
  rw [hqq, hss]
  obtain ⟨N, hN⟩ : ∃ N : Int, (if 9000000000000000000 < q then 0 else if s = true then -(q : Int) else (q : Int)) = N := ⟨_, rfl⟩
  obtain ⟨E, hE⟩ : ∃ E : Int, (if 9000000000000000000 < q then 5 else 0) = E := ⟨_, rfl⟩
  rw [hN, hE]
  have HNE := hide (And.intro hN hE)
  clear hN hE
  rw [hpp, hmm, hss] at HP
  have HPN := hide hpn
  have HQ := hide hq
  clear hb h hk hk' hn hfN hfE hpp hmm hqq hss hkU hpn hq
  have hp' : -2000 ≤ p := by have := unhide HPN; omega
  go_enter Tryz.func143, Tryz.ntmps143
  go_wp2_with fail
  refine (clsof_any b _ (unhide HB).1).mono ?_
  rintro e w2 ⟨rfl, rfl⟩
  rw [unhide HK]
  go_wp2_with fail
  refine (unhide HP).mono ?_
  rintro e w2 ⟨rfl, rfl⟩
  go_wp2_with fail
  refine (product_two m 10000 _ _ _ rfl rfl (by omega) (by omega)).mono ?_
  rintro e w1 ⟨⟨h1, l1, rfl, T1⟩, b1⟩
  go_wp2_with fail
  refine (rounded_two (m * 10000) n _ _ _ _ (unhide T1) (unhide HPN) hn1 hn2 (by omega)).mono ?_
  rintro e w3 ⟨⟨h2, l2, rfl, T2⟩, b2⟩
  rw [unhide HQ] at T2
  go_wp2_with fail
  refine (order_two q 9000000000000000000 _ _ _ _ _ (unhide T2) ⟨rfl, rfl⟩).mono ?_
  rintro e w4 ⟨rfl, b3⟩
  have hp3 := pair_below (pair_new w3 (.int .u64 h2) (.int .u64 l2)) b3 (by simp)
  have B3 : Below w2.heap.size w2 w4 := by
    have c1 := fl_below_then b1 b2
    have c2 : Below w2.heap.size w2 (w3.alloc (.cells #[.int .u64 h2, .int .u64 l2] 146)) := c1.alloc c1.size _
    exact c2.trans (b3.mono c2.size)
  have HB3 := hide B3
  have HP3 := hide hp3
  clear b1 b2 b3 B3
  by_cases hg : 9000000000000000000 < q
  · have HG := hide hg
    rw [show ordV q 9000000000000000000 = 1 from by unfold ordV; rw [if_neg (by omega), if_neg (by omega)]]
    clear hp3 hg
    go_wp2
    go_ret2
    exact ⟨ret_ne (by rw [← (unhide HNE).1, if_pos (unhide HG)]) (by rw [← (unhide HNE).2, if_pos (unhide HG)]), unhide HB3⟩
  · have ho : ordV q 9000000000000000000 ≤ 0 := by
      unfold ordV
      by_cases he : q = 9000000000000000000
      · rw [if_pos he]; omega
      · rw [if_neg he, if_pos (by omega)]; omega
    have HG := hide hg
    have cl := pair_c1 hp3
    have el : l2 = (q : Int) := by
      have := (unhide T2).2
      rw [Nat.mod_eq_of_lt (by omega)] at this; exact this
    subst el
    obtain ⟨o, hoo⟩ : ∃ o, ordV q 9000000000000000000 = o := ⟨_, rfl⟩
    rw [hoo] at ho ⊢
    have hq0 : (0 : Int) ≤ (q : Int) := Int.natCast_nonneg _
    have hq9 : (q : Int) ≤ 9000000000000000000 := by omega
    have G1 : Hid (goodB (q : Int) = true) := hide (by rw [goodB_iff]; omega)
    have G2 : Hid (goodB (-(q : Int)) = true) := hide (by rw [goodB_iff]; omega)
    clear hp3 hoo hg
    cases s
    · go_wp2_with fail
      refine (fl_raw_yes (q : Int) _ (unhide G1)).mono ?_
      rintro e w5 ⟨rfl, b5⟩
      go_wp2
      go_ret2
      exact ⟨ret_ne (by rw [← (unhide HNE).1, if_neg (unhide HG)]; rfl) (by rw [← (unhide HNE).2, if_neg (unhide HG)]), fl_below_then (unhide HB3) b5⟩
    · go_wp2_with fail
      refine (fl_raw_yes (-(q : Int)) _ (unhide G2)).mono ?_
      rintro e w5 ⟨rfl, b5⟩
      go_wp2
      go_ret2
      exact ⟨ret_ne (by rw [← (unhide HNE).1, if_neg (unhide HG)]; rfl) (by rw [← (unhide HNE).2, if_neg (unhide HG)]), fl_below_then (unhide HB3) b5⟩
theorem from_any (b : Nat) (w : World) (hb : b < 18446744073709551616) :
    Calls Tryz.prog 143 #[.float .f64 b] w fun e w' => e = .returned (.tuple #[.int .i64 (frN b), .int .i64 (frE b)]) ∧ Below w.heap.size w w' := by
  by_cases h : 9218868437227405312 ≤ Fl.rng b
  · refine (from_bad b w hb h).mono ?_
    rintro e w' ⟨rfl, rfl⟩
    exact ⟨rfl, Below.refl _ _⟩
  · by_cases hk : Fl.mk (Fl.rng b) < Fl.kU
    · exact from_fin b w hb (by omega) hk
    · refine (from_great b w hb (by omega) (by omega)).mono ?_
      rintro e w' ⟨rfl, rfl⟩
      have := frq_great (Fl.rng b) (by omega)
      refine ⟨?_, Below.refl _ _⟩
      unfold frN frE
      rw [if_neg h, if_pos this, if_neg (by omega : ¬ 9218868437227405312 < Fl.rng b), if_neg (by omega : ¬ Fl.rng b = 9218868437227405312), if_pos this]
end Go.Proofs.YtbeijnflfmjgfaaGreatDoor

namespace Go.Proofs.YtbeijnflfmjgfaaGreatDoor.Fl
open Ieee

theorem cut_round (neg : Bool) (n d : Nat) (hd : d ≤ n.log2 + 2) :
    2 * (Toward.even.cut neg n d * 2 ^ d) ≤ 2 * n + 2 ^ d ∧ 2 * n ≤ 2 * (Toward.even.cut neg n d * 2 ^ d) + 2 ^ d ∧ n / 2 ^ d ≤ Toward.even.cut neg n d ∧ Toward.even.cut neg n d ≤ n / 2 ^ d + 1 := by
  have p : 0 < 2 ^ d := Nat.two_pow_pos d
  have e : 1 <<< min d (n.log2 + 2) = 2 ^ d := by rw [Nat.min_eq_left hd, Nat.shiftLeft_eq, Nat.one_mul]
  unfold Toward.cut
  simp only [e]
  have h1 := Nat.div_add_mod n (2 ^ d)
  have h2 := Nat.mod_lt n p
  rw [Nat.mul_comm] at h1
  generalize n / 2 ^ d = q at *
  generalize n % 2 ^ d = r at *
  cases hm : (decide (2 ^ d < 2 * r) || 2 ^ d == 2 * r && q % 2 == 1)
  · rw [Bool.or_eq_false_iff] at hm
    have h3 : ¬ 2 ^ d < 2 * r := of_decide_eq_false hm.1
    simp only [Bool.toNat_false, Nat.add_zero]
    generalize q * 2 ^ d = z at *
    refine ⟨by omega, by omega, by omega, by omega⟩
  · rw [Bool.or_eq_true, Bool.and_eq_true, beq_iff_eq] at hm
    have h3 : 2 ^ d ≤ 2 * r := by
      rcases hm with hm | hm
      · have := of_decide_eq_true hm; omega
      · omega
    simp only [Bool.toNat_true, Nat.add_mul, Nat.one_mul]
    generalize q * 2 ^ d = z at *
    refine ⟨by omega, by omega, by omega, by omega⟩

def wordOf (neg : Bool) (r : Nat) : Nat := if neg = true then 9223372036854775808 + r else r
theorem sgn_word (neg : Bool) (r : Nat) (h : r < 9223372036854775808) : sgn (wordOf neg r) = neg := by
  unfold wordOf sgn
  cases neg
  · rw [if_neg (by decide), Nat.div_eq_of_lt h]; rfl
  · rw [if_pos rfl, show (9223372036854775808 + r) / 9223372036854775808 = 1 by omega]; rfl
theorem rng_word (neg : Bool) (r : Nat) (h : r < 9223372036854775808) : rng (wordOf neg r) = r := by
  unfold wordOf rng
  cases neg
  · rw [if_neg (by decide), Nat.mod_eq_of_lt h]
  · rw [if_pos rfl]; omega
theorem word_lt (neg : Bool) (r : Nat) (h : r < 9223372036854775808) : wordOf neg r < 18446744073709551616 := by
  unfold wordOf; split <;> omega

structure Kept (m k : Nat) : Prop where
  low : 4503599627370496 ≤ k
  high : k ≤ 9007199254740992
  exact : m.log2 ≤ 52 → k = m * 2 ^ (52 - m.log2)
  above : 52 < m.log2 → 2 * (k * 2 ^ (m.log2 - 52)) ≤ 2 * m + 2 ^ (m.log2 - 52)
  below : 52 < m.log2 → 2 * m ≤ 2 * (k * 2 ^ (m.log2 - 52)) + 2 ^ (m.log2 - 52)

theorem near_norm (neg : Bool) (m : Nat) (p : Int) (d : Nat) (hm : m ≠ 0) (hd : p + (m.log2 : Int) = (d : Int) - 1022) (hd2 : d ≤ 2044) :
    ∃ k, double.nearest neg m p = wordOf neg (d * 4503599627370496 + k) ∧ Kept m k := by
  have hl1 := Nat.log2_self_le hm
  have hl2 := @Nat.lt_log2_self m
  unfold Format.nearest
  rw [if_neg hm, lp, fb, bn]
  have e1 : max (p + (m.log2 : Int) - ((52 : Nat) : Int)) (-1074) = (d : Int) - 1074 := by omega
  have e4 : (((d : Int) - 1074) - (-1074)).toNat = d := by omega
  have e2 : (p - ((d : Int) - 1074)).toNat = 52 - m.log2 := by omega
  have e3 : (((d : Int) - 1074) - p).toNat = m.log2 - 52 := by omega
  simp only [e1, e2, e3, e4]
  obtain ⟨k, hk⟩ : ∃ k, Toward.even.cut neg (m <<< (52 - m.log2)) (m.log2 - 52) = k := ⟨_, rfl⟩
  rw [hk]
  have K : Kept m k := by
    rcases Nat.lt_or_ge 52 m.log2 with h | h
    · rw [show 52 - m.log2 = 0 by omega, Nat.shiftLeft_zero] at hk
      have hc := cut_round neg m (m.log2 - 52) (by omega)
      rw [hk] at hc
      have p0 : 0 < 2 ^ (m.log2 - 52) := Nat.two_pow_pos _
      have f1 : 4503599627370496 ≤ m / 2 ^ (m.log2 - 52) := by
        rw [Nat.le_div_iff_mul_le p0]
        have : 2 ^ m.log2 = 4503599627370496 * 2 ^ (m.log2 - 52) := by rw [show (4503599627370496 : Nat) = 2 ^ 52 from by decide, ← Nat.pow_add, show 52 + (m.log2 - 52) = m.log2 by omega]
        omega
      have f2 : m / 2 ^ (m.log2 - 52) < 9007199254740992 := by
        rw [Nat.div_lt_iff_lt_mul p0]
        have : 2 ^ (m.log2 + 1) = 9007199254740992 * 2 ^ (m.log2 - 52) := by rw [show (9007199254740992 : Nat) = 2 ^ 53 from by decide, ← Nat.pow_add, show 53 + (m.log2 - 52) = m.log2 + 1 by omega]
        omega
      exact ⟨by omega, by omega, fun hx => by omega, fun _ => hc.1, fun _ => hc.2.1⟩
    · rw [show m.log2 - 52 = 0 by omega, cut_zero, Nat.shiftLeft_eq] at hk
      have p0 : 0 < 2 ^ (52 - m.log2) := Nat.two_pow_pos _
      have f1 : 2 ^ m.log2 * 2 ^ (52 - m.log2) ≤ m * 2 ^ (52 - m.log2) := Nat.mul_le_mul_right _ hl1
      have f2 : m * 2 ^ (52 - m.log2) < 2 ^ (m.log2 + 1) * 2 ^ (52 - m.log2) := Nat.mul_lt_mul_of_pos_right hl2 p0
      rw [← Nat.pow_add, show m.log2 + (52 - m.log2) = 52 by omega] at f1
      rw [← Nat.pow_add, show m.log2 + 1 + (52 - m.log2) = 53 by omega] at f2
      rw [hk] at f1 f2
      refine ⟨?_, ?_, fun _ => hk.symm, fun hx => by omega, fun hx => by omega⟩
      · exact f1
      · exact Nat.le_of_lt f2
  refine ⟨k, ?_, K⟩
  have h1 := K.high
  rw [word_min neg _ (by omega)]
  rfl

theorem mg_kept (d k : Nat) (h1 : 4503599627370496 ≤ k) (h2 : k ≤ 9007199254740992) : mg (d * 4503599627370496 + k) = k * 2 ^ d := by
  unfold mg
  rw [if_neg (by omega)]
  rcases Nat.lt_or_ge k 9007199254740992 with h | h
  · rw [show (d * 4503599627370496 + k) % 4503599627370496 = k - 4503599627370496 by omega, show (d * 4503599627370496 + k) / 4503599627370496 - 1 = d by omega, show 4503599627370496 + (k - 4503599627370496) = k by omega]
  · have hk : k = 9007199254740992 := by omega
    subst hk
    rw [show (d * 4503599627370496 + 9007199254740992) % 4503599627370496 = 0 by omega, show (d * 4503599627370496 + 9007199254740992) / 4503599627370496 - 1 = d + 1 by omega, Nat.add_zero, Nat.pow_succ]
    generalize 2 ^ d = z
    omega

theorem div_norm (x y : Nat) (hx1 : 4503599627370496 ≤ rng x) (hx2 : rng x < 9218868437227405312) (hy1 : 4503599627370496 ≤ rng y) (hy2 : rng y < 9218868437227405312)
    (hlo : mk (rng y) ≤ mk (rng x) + 1000) (hhi : mk (rng x) ≤ mk (rng y) + 1000) :
    ∃ d k c : Nat, double.div x y = some (wordOf (sgn x ^^ sgn y) (d * 4503599627370496 + k)) ∧ 4503599627370496 ≤ k ∧ k ≤ 9007199254740992 ∧ 2 ≤ c ∧ c ≤ 3 ∧ (d : Int) = (mk (rng x) : Int) - (mk (rng y) : Int) + 1019 + c ∧
      k * 2 ^ c * mm (rng y) ≤ mm (rng x) * 2 ^ 55 + 5 * mm (rng y) ∧ mm (rng x) * 2 ^ 55 ≤ k * 2 ^ c * mm (rng y) + 5 * mm (rng y) := by
  have hm1 := mm_lt (rng x)
  have hg1 := mm_ge (rng x) hx1
  have hm2 := mm_lt (rng y)
  have hg2 := mm_ge (rng y) hy1
  unfold Format.div
  rw [read_fin x hx2, read_fin y hy2]
  obtain ⟨m, hm⟩ : ∃ m, mm (rng x) = m := ⟨_, rfl⟩
  obtain ⟨n, hn⟩ : ∃ n, mm (rng y) = n := ⟨_, rfl⟩
  obtain ⟨i, hi⟩ : ∃ i, mk (rng x) = i := ⟨_, rfl⟩
  obtain ⟨j, hj⟩ : ∃ j, mk (rng y) = j := ⟨_, rfl⟩
  rw [hm] at hm1 hg1
  rw [hn] at hm2 hg2
  rw [hi, hj] at hlo hhi
  rw [hm, hn, hi, hj]
  clear hm hn hi hj hx1 hx2 hy1 hy2
  generalize sgn x = s
  generalize sgn y = t
  have l1 := log2_52 hg1 hm1
  have l2 := log2_52 hg2 hm2
  show ∃ d k c : Nat, ((if n = 0 then (if m = 0 then none else some (Datum.infinity (s ^^ t))) else some (Datum.number (s ^^ t) (2 * (m <<< (double.fractionBits + 2 + n.log2 - m.log2) / n) + (m <<< (double.fractionBits + 2 + n.log2 - m.log2) % n != 0).toNat) ((-1074 + (i : Int)) - (-1074 + (j : Int)) - ((double.fractionBits + 2 + n.log2 - m.log2 : Nat) : Int) - 1))).map double.write) = _ ∧ _
  rw [if_neg (by omega), l1, l2, fb, show (52 + 2 + 52 - 52 : Nat) = 54 from rfl, Nat.shiftLeft_eq]
  have hdm := Nat.div_add_mod (m * 2 ^ 54) n
  have hml := Nat.mod_lt (m * 2 ^ 54) (show 0 < n by omega)
  rw [show (2 : Nat) ^ 54 = 18014398509481984 from by decide] at *
  obtain ⟨q, hq⟩ : ∃ q, m * 18014398509481984 / n = q := ⟨_, rfl⟩
  obtain ⟨r, hr⟩ : ∃ r, m * 18014398509481984 % n = r := ⟨_, rfl⟩
  obtain ⟨z, hz⟩ : ∃ z, n * q = z := ⟨_, rfl⟩
  rw [hq, hr, hz] at hdm
  rw [hr] at hml
  rw [hq, hr]
  -- the whole part lies between
  have q1 : 9007199254740992 < q := by
    rcases Nat.lt_or_ge 9007199254740992 q with h | h
    · exact h
    · have h5 : n * q ≤ n * 9007199254740992 := Nat.mul_le_mul_left _ h
      omega
  have q2 : q < 36028797018963968 := by
    rcases Nat.lt_or_ge q 36028797018963968 with h | h
    · exact h
    · have h5 : n * 36028797018963968 ≤ n * q := Nat.mul_le_mul_left _ h
      omega
  obtain ⟨b, hb, hb1, hb2, hb3⟩ : ∃ b : Nat, (r != 0).toNat = b ∧ b ≤ 1 ∧ (2 * q + b) * n ≤ m * 36028797018963968 + n ∧ m * 36028797018963968 ≤ (2 * q + b) * n + n := by
    have e : 2 * q * n = 2 * z := by rw [← hz, Nat.mul_assoc, Nat.mul_comm q]
    by_cases h0 : r = 0
    · refine ⟨0, by rw [h0]; rfl, by omega, ?_, ?_⟩
      · rw [Nat.add_zero, e]; omega
      · rw [Nat.add_zero, e]; omega
    · have : (r != 0) = true := by rw [bne_iff_ne]; exact h0
      refine ⟨1, by rw [this]; rfl, by omega, ?_, ?_⟩
      · rw [Nat.add_mul, e]; omega
      · rw [Nat.add_mul, e]; omega
  rw [hb]
  obtain ⟨M, hM⟩ : ∃ M, 2 * q + b = M := ⟨_, rfl⟩
  rw [hM] at hb2 hb3 ⊢
  have hM1 : 18014398509481984 ≤ M := by omega
  have hM2 : M < 72057594037927936 := by omega
  have hML : M.log2 = 54 ∨ M.log2 = 55 := by
    rcases Nat.lt_or_ge M 36028797018963968 with h | h
    · exact Or.inl ((Nat.log2_eq_iff (by omega)).2 ⟨hM1, h⟩)
    · exact Or.inr ((Nat.log2_eq_iff (by omega)).2 ⟨h, hM2⟩)
  obtain ⟨c, hc, hc1, hc2⟩ : ∃ c, M.log2 = 52 + c ∧ 2 ≤ c ∧ c ≤ 3 := by
    rcases hML with h | h
    · exact ⟨2, h, by omega, by omega⟩
    · exact ⟨3, h, by omega, by omega⟩
  obtain ⟨d, hd⟩ : ∃ d : Nat, (d : Int) = (i : Int) - (j : Int) + 1019 + c := ⟨((i : Int) - (j : Int) + 1019 + c).toNat, by omega⟩
  obtain ⟨k, hk, K⟩ := near_norm (s ^^ t) M ((-1074 + (i : Int)) - (-1074 + (j : Int)) - ((54 : Nat) : Int) - 1) d (by omega) (by rw [hc]; omega) (by omega)
  refine ⟨d, k, c, congrArg some hk, K.low, K.high, hc1, hc2, hd, ?_, ?_⟩
  · have ka := K.above (by omega)
    rw [hc, show 52 + c - 52 = c by omega] at ka
    have c8 : 2 ^ c ≤ 8 := by
      have : 2 ^ c ≤ 2 ^ 3 := Nat.pow_le_pow_right (by omega) hc2
      exact this
    have k1 : k * 2 ^ c ≤ M + 4 := by generalize k * 2 ^ c = u at *; omega
    have k2 : k * 2 ^ c * n ≤ (M + 4) * n := Nat.mul_le_mul_right _ k1
    rw [Nat.add_mul] at k2
    rw [show (2 : Nat) ^ 55 = 36028797018963968 from by decide]
    omega
  · have ka := K.below (by omega)
    rw [hc, show 52 + c - 52 = c by omega] at ka
    have c8 : 2 ^ c ≤ 8 := by
      have : 2 ^ c ≤ 2 ^ 3 := Nat.pow_le_pow_right (by omega) hc2
      exact this
    have k1 : M ≤ k * 2 ^ c + 4 := by generalize k * 2 ^ c = u at *; omega
    have k2 : M * n ≤ (k * 2 ^ c + 4) * n := Nat.mul_le_mul_right _ k1
    rw [Nat.add_mul (k * 2 ^ c)] at k2
    rw [show (2 : Nat) ^ 55 = 36028797018963968 from by decide]
    omega
end Go.Proofs.YtbeijnflfmjgfaaGreatDoor.Fl
