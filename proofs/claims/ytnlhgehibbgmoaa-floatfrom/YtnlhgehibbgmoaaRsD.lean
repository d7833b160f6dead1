/- The contract of the reference's Number. -/
import Derived.Test.YtnlhgehibbgmoaaRsC
namespace Go.Proofs.Ytnlhgehibbgmoaa
open Go.RowKit

theorem below_next {w a b : World} (h : Below w.heap.size w a) (k : Below a.heap.size a b) : Below w.heap.size w b := h.trans (k.mono h.size)

theorem val_drop (zs : List Int) (k : Nat) (h0 : 0 < k) (hk : k ≤ zs.length) : Dc.val (zs.drop (k - 1)) = zs.getD (k - 1) 0 + 10 * Dc.val (zs.drop k) := by
  rw [drop_pred zs k h0 hk]; rfl
theorem val_drop_le (zs : List Int) (k : Nat) (hk : k ≤ zs.length) (hd : Dc.Dig zs) : 0 ≤ Dc.val (zs.drop k) ∧ Dc.val (zs.drop k) ≤ Dc.val zs := by
  have h0 := Dc.val_nonneg (zs.drop k) (fun x hx => hd x (List.mem_of_mem_drop hx))
  have h1 := Dc.val_nonneg (zs.take k) (hd.take k)
  have e := Dc.val_append (zs.take k) (zs.drop k)
  rw [List.take_append_drop, List.length_take, Nat.min_eq_left hk] at e
  have hp := Dc.pow_pos k
  have : (1 : Int) * Dc.val (zs.drop k) ≤ 10 ^ k * Dc.val (zs.drop k) := Int.mul_le_mul_of_nonneg_right (by omega) h0
  omega

/-- A number and an error, in a world that has grown. -/
def PairPost (r : Int × Int) (w : World) (e : Ending) (w' : World) : Prop := e = .returned (.tuple #[.int .i64 r.1, .int .i64 r.2]) ∧ Below w.heap.size w w'

set_option maxRecDepth 100000 in
set_option maxHeartbeats 2000000 in
theorem number_ref (v : Value) (zs : List Int) (neg : Bool) (w : World) (hz : zs.length ≤ 900) (hv : Arr w v zs) (hd : Dc.Dig zs) (hc : Dc.Cn zs) :
    Calls Try.prog 35 #[v, .bool neg] w fun e w' => PairPost (sgnN neg (Dc.val zs), sgnE (Dc.val zs)) w e w' := by
  have HD := hide (And.intro hd hc)
  have HV := hide hv
  obtain ⟨ad, cap, rfl, ho⟩ := arr_open hv
  have HO := hide ho
  obtain ⟨n, hn⟩ : ∃ n, zs.length = n := ⟨_, rfl⟩
  rw [hn] at hz ⊢
  rw [hn] at HO
  rw [hn] at HV
  have HN := hide hn
  clear hd hc hv ho hn
  go_enter Try.func35, Try.ntmps35
  go_wp2_with fail
  refine (digits_ref 9000000000000000000 _ (by omega) (by omega)).mono ?_
  rintro e w1 ⟨b1, vb, bs, rfl, k1, k2, k3, k4, k5⟩
  have K4 : Hid (Dc.val bs = 9000000000000000000) := hide k4
  have K := hide (And.intro k1 (And.intro k2 k3))
  clear k1 k2 k3 k4
  go_wp2_with fail
  refine (below_any _ _ bs zs _ (by omega) (by have := unhide HN; omega) (unhide K).1 ((unhide HV).below (Nat.le_refl _) b1) (unhide K).2.1 (unhide HD).1 (unhide K).2.2 (unhide HD).2).mono ?_
  rintro e w2 ⟨rfl, b2⟩
  have b12 := below_next b1 b2
  rw [unhide K4]
  by_cases hm : 9000000000000000000 < Dc.val zs
  · rw [decide_eq_true hm]
    have HR : Hid (sgnN neg (Dc.val zs) = 0 ∧ sgnE (Dc.val zs) = 5) := hide (by unfold sgnN sgnE; rw [if_pos hm, if_pos hm]; exact ⟨rfl, rfl⟩)
    clear hm
    go_wp2
    go_ret2
    exact ⟨by rw [(unhide HR).1, (unhide HR).2]; rfl, b12⟩
  · rw [decide_eq_false hm]
    have HR : Hid (sgnN neg (Dc.val zs) = (if neg = true then -Dc.val zs else Dc.val zs) ∧ sgnE (Dc.val zs) = 0) := hide (by unfold sgnN sgnE; rw [if_neg hm, if_neg hm]; exact ⟨rfl, rfl⟩)
    have HM := hide hm
    clear hm
    go_wp2
    go_loop [8, 9] (fun t i => ∃ k : Nat, i = .int .i64 ((k : Int) - 1) ∧ k ≤ n ∧ t = .int .i64 (Dc.val (zs.drop k))) (fun _ i => (intOf i + 1).toNat)
    case atStart => exact ⟨n, rfl, Nat.le_refl _, by rw [List.drop_of_length_le (by have := unhide HN; omega)]; rfl⟩
    case round =>
      obtain ⟨k, rfl, hk, rfl⟩ := hrel
      have hvd := val_drop_le zs k (by have := unhide HN; omega) (unhide HD).1
      rcases Nat.eq_zero_or_pos k with hk0 | hk0
      · subst hk0
        rw [List.drop_zero] at hvd ⊢
        obtain ⟨v1, v2⟩ := hvd
        have hm' := unhide HM
        obtain ⟨x, hx⟩ : ∃ x, Dc.val zs = x := ⟨_, rfl⟩
        rw [hx] at v1 hm' HR ⊢
        have HX := hide hx
        clear hx v2
        cases neg
        · go_wp2
          go_ret2
          exact ⟨by rw [unhide HX, (unhide HR).1, (unhide HR).2]; rfl, b12⟩
        · go_wp2
          go_ret2
          exact ⟨by rw [unhide HX, (unhide HR).1, (unhide HR).2]; rfl, b12⟩
      · obtain ⟨b, o, rfl, hb, hcell⟩ := unhide HO (by omega)
        have hc := hcell (k - 1) (by omega)
        rw [← b12.cell (p := ⟨b, o + (k - 1), none⟩) hb] at hc
        have hvs := val_drop zs k hk0 (by have := unhide HN; omega)
        have hv1 := val_drop_le zs (k - 1) (by have := unhide HN; omega) (unhide HD).1
        have hg := (unhide HD).1.getD (k - 1)
        have hm' := unhide HM
        obtain ⟨d, hd⟩ : ∃ d, zs.getD (k - 1) 0 = d := ⟨_, rfl⟩
        obtain ⟨x, hx⟩ : ∃ x, Dc.val (zs.drop k) = x := ⟨_, rfl⟩
        obtain ⟨y, hy⟩ : ∃ y, Dc.val (zs.drop (k - 1)) = y := ⟨_, rfl⟩
        rw [hd] at hc hvs hg
        rw [hx] at hvs hvd ⊢
        rw [hy] at hvs hv1
        have hxb : 0 ≤ x ∧ 10 * x + d ≤ 9000000000000000000 := by omega
        obtain ⟨x1, x2⟩ := hxb
        obtain ⟨d1, d2⟩ := hg
        have HY : Hid (Dc.val (zs.drop (k - 1)) = 10 * x + d) := hide (by rw [hy]; omega)
        have ek : ((k : Int) - 1).toNat = k - 1 := by omega
        clear hcell hv1 hvd hvs hy hx hd hm'
        go_wp2
        go_round
        case rel => exact ⟨k - 1, int_eqv (by omega), by omega, by rw [unhide HY]⟩
        case measure => simp [intOf]; omega
end Go.Proofs.Ytnlhgehibbgmoaa
