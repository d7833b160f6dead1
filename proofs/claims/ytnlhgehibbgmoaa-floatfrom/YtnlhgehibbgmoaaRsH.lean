/- The contract of the reference's below, of layer 2. -/
import Derived.Test.YtnlhgehibbgmoaaRsE
import Derived.Test.YtnlhgehibbgmoaaRsD
namespace Go.Proofs.Ytnlhgehibbgmoaa
open Go.RowKit

set_option maxHeartbeats 2000000 in
theorem below2_any (va vb : Value) (xs ys : List Int) (w : World) (ha : xs.length ≤ 1000) (hb : ys.length ≤ 1000) (hva : Arr w va xs) (hvb : Arr w vb ys)
    (da : Dc.Dig xs) (db : Dc.Dig ys) (ca : Dc.Cn xs) (cb : Dc.Cn ys) :
    Calls Try.prog 39 #[va, vb] w fun e w' => BelowPost (decide (Dc.val xs < Dc.val ys)) w e w' := by
  obtain ⟨xa, na, capa, rfl, hna⟩ : ∃ ad n cap, va = .slice ad n cap ∧ n = xs.length := by
    rcases hva with ⟨rfl, ad, cap, rfl⟩ | ⟨b, o, cap, rfl, _⟩
    · exact ⟨_, _, _, rfl, rfl⟩
    · exact ⟨_, _, _, rfl, rfl⟩
  obtain ⟨xb, nb, capb, rfl, hnb⟩ : ∃ ad n cap, vb = .slice ad n cap ∧ n = ys.length := by
    rcases hvb with ⟨rfl, ad, cap, rfl⟩ | ⟨b, o, cap, rfl, _⟩
    · exact ⟨_, _, _, rfl, rfl⟩
    · exact ⟨_, _, _, rfl, rfl⟩
  by_cases hl : na = nb
  · have hlx : xs.length = ys.length := by omega
    have hlb : ((na : Int) == (nb : Int)) = true := by rw [beq_iff_eq]; omega
    subst hl
    rcases Nat.eq_zero_or_pos na with h0 | h0
    · have ex : xs = [] := List.eq_nil_of_length_eq_zero (by omega)
      have ey : ys = [] := List.eq_nil_of_length_eq_zero (by omega)
      have hd : decide (Dc.val xs < Dc.val ys) = false := by rw [ex, ey]; decide
      rw [hd]
      have HD := hide hd
      have HN := hide (And.intro hna hnb)
      have HVA := hide hva
      have HVB := hide hvb
      have HX := hide (And.intro ex ey)
      clear hd hva hvb da db ca cb hna hnb ex ey hlx
      subst h0
      go_enter Try.func39, Try.ntmps39
      go_wp2
      refine wp_loop_rounds 1 ?_
      rw [rounds_succ]
      go_wp2
      go_ret
      exact ⟨rfl, Below.refl _ _⟩
    · rcases hva with ⟨e, _⟩ | ⟨ba, oa, capa', ea, _, _, hca⟩
      · exfalso; rw [e] at hna; simp at hna; omega
      rcases hvb with ⟨e, _⟩ | ⟨bb, ob, capb', eb, _, _, hcb⟩
      · exfalso; rw [e] at hnb; simp at hnb; omega
      injection ea with ea1 ea2 ea3
      injection eb with eb1 eb2 eb3
      subst ea1 eb1
      have HCA := hide hca
      have HCB := hide hcb
      have HDA := hide (And.intro da db)
      have HLX := hide hlx
      have HNA := hide (And.intro hna hnb)
      have hn1000 : na ≤ 1000 := by omega
      clear hca hcb da db ca cb hlx hna hnb ea2 eb2 ea3 eb3
      go_enter Try.func39, Try.ntmps39
      go_wp2
      go_loopw [5] (fun t wr => ∃ k m : Nat, t = .int .i64 ((k : Int) - 1) ∧ k ≤ na ∧ Hid (xs.drop k = ys.drop k) ∧ wr = w.drewN m) (fun t _ => (intOf t + 1).toNat)
      case atStart => exact ⟨na, 0, rfl, Nat.le_refl _, hide (by have h1 := unhide HNA; have h2 := unhide HLX; rw [List.drop_of_length_le (by omega), List.drop_of_length_le (by omega)]), rfl⟩
      case round =>
        obtain ⟨k, m, rfl, hk, HD, rfl⟩ := hrel
        rcases Nat.eq_zero_or_pos k with hk0 | hk0
        · subst hk0
          have hd : Hid (decide (Dc.val xs < Dc.val ys) = false) := hide (by have := unhide HD; rw [List.drop_zero, List.drop_zero] at this; rw [this]; exact decide_eq_false (by omega))
          go_wp2
          go_ret
          exact ⟨by rw [unhide hd]; rfl, below_drewN (Below.refl _ _) _⟩
        · have hca := unhide HCA (k - 1) (by have := unhide HNA; omega)
          have hcb := unhide HCB (k - 1) (by have := unhide HNA; omega)
          obtain ⟨x, hx⟩ : ∃ x, xs.getD (k - 1) 0 = x := ⟨_, rfl⟩
          obtain ⟨y, hy⟩ : ∃ y, ys.getD (k - 1) 0 = y := ⟨_, rfl⟩
          rw [hx] at hca
          rw [hy] at hcb
          have HX := hide hx
          have HY := hide hy
          clear hx hy
          have hkI : ((k : Int) - 1).toNat = k - 1 := by omega
          by_cases hxy : x = y
          · subst hxy
            go_wp2
            go_quiet (fail)
            go_wp2
            exact ⟨⟨k - 1, _, int_eqv (by omega), by omega, hide (by
              have h1 := unhide HNA
              rw [drop_pred xs k (by omega) (by omega), drop_pred ys k (by omega) (by omega), unhide HX, unhide HY, unhide HD]), rfl⟩, by simp [intOf]; omega⟩
          · have hxb : (x == y) = false := by rw [beq_eq_false_iff_ne]; exact hxy
            have hd : Hid (decide (Dc.val xs < Dc.val ys) = decide (x < y)) := hide (by
              have h1 := unhide HNA
              have h2 := unhide HDA
              have e1 : k - 1 + 1 = k := by omega
              by_cases hlt : x < y
              · rw [decide_eq_true hlt]
                exact decide_eq_true (Dc.lt_at xs ys h2.1 h2.2 (k - 1) (by omega) (unhide HLX) (by rw [e1]; exact unhide HD) (by rw [unhide HX, unhide HY]; exact hlt))
              · rw [decide_eq_false hlt]
                have := Dc.lt_at ys xs h2.2 h2.1 (k - 1) (by omega) (unhide HLX).symm (by rw [e1]; exact (unhide HD).symm) (by rw [unhide HX, unhide HY]; omega)
                exact decide_eq_false (by omega))
            have HXY := hide hxy
            clear hxy
            go_wp2
            go_quiet (fail)
            go_wp2
            go_quiet (fail)
            go_wp2
            go_ret
            exact ⟨by rw [unhide hd]; rfl, below_drewN (below_drewN (below_drewN (Below.refl _ _) _) _) _⟩
  · have hlb : ((na : Int) == (nb : Int)) = false := by rw [beq_eq_false_iff_ne]; omega
    have hd : decide (Dc.val xs < Dc.val ys) = decide (na < nb) := by
      by_cases h : na < nb
      · rw [decide_eq_true (Dc.lt_of_len xs ys da db cb (by omega)), decide_eq_true (by omega)]
      · have := Dc.lt_of_len ys xs db da ca (by omega)
        rw [decide_eq_false (by omega), decide_eq_false (by omega)]
    rw [hd]
    have HD := hide hd
    have HVA := hide hva
    have HVB := hide hvb
    have HN := hide (And.intro hna hnb)
    clear hd hva hvb da db ca cb hna hnb
    go_enter Try.func39, Try.ntmps39
    go_wp2
    go_ret
    exact ⟨rfl, Below.refl _ _⟩
end Go.Proofs.Ytnlhgehibbgmoaa
