/- Slices of digits in memory; the contracts of the reference's trim, below, Good. -/
import Derived.Test.YtloamahbghjjgaaGreatDoorRfM
import Derived.Test.YtloamahbghjjgaaGreatDoorFxA
import Derived.WalkSmall
import Derived.Deep.QuietTactic
import Derived.BigQuiet
namespace Go.Proofs.YtloamahbghjjgaaGreatDoor
open Go.RowKit

/-- The slice value v reads as these numbers in w. -/
def Arr (w : World) (v : Value) (zs : List Int) : Prop :=
  (zs = [] ∧ ∃ ad cap, v = .slice ad 0 cap) ∨
    ∃ b o cap, v = .slice (some ⟨b, o, none⟩) zs.length cap ∧ zs.length ≤ cap ∧ b < w.heap.size ∧ ∀ i, i < zs.length → w.cell? ⟨b, o + i, none⟩ = some (.int .i64 (zs.getD i 0))
theorem Arr.below {w w' : World} {v : Value} {zs : List Int} {B : Nat} (h : Arr w v zs) (hB : w.heap.size ≤ B) (hb : Below B w w') : Arr w' v zs := by
  rcases h with h | ⟨b, o, cap, e, hc, hlt, hcell⟩
  · exact Or.inl h
  · exact Or.inr ⟨b, o, cap, e, hc, Nat.lt_of_lt_of_le hlt hb.size, fun i hi => by rw [hb.cell (p := ⟨b, o + i, none⟩) (Nat.lt_of_lt_of_le hlt hB)]; exact hcell i hi⟩

set_option maxHeartbeats 1000000 in
theorem good_ref (a : Int) (w : World) : Calls Tryz.prog 124 #[.int .i64 a] w fun e w' => e = .returned (.bool (goodB a)) ∧ w' = w := by
  cases hg : goodB a
  · rw [goodB_not] at hg
    rcases hg with hg | hg
    · go_enter Tryz.func124, Tryz.ntmps124
      go_wp2
      go_ret
      exact ⟨rfl, rfl⟩
    · have h1 : -9000000000000000000 ≤ a := by omega
      have d2 : decide (a ≤ 9000000000000000000) = false := by rw [decide_eq_false_iff_not]; omega
      go_enter Tryz.func124, Tryz.ntmps124
      go_wp2
      go_ret
      exact ⟨rfl, rfl⟩
  · rw [goodB_iff] at hg
    obtain ⟨g1, g2⟩ := hg
    go_enter Tryz.func124, Tryz.ntmps124
    go_wp2
    go_ret
    exact ⟨rfl, rfl⟩

theorem int_eqv {k : IntKind} {a b : Int} (h : a = b) : Value.int k a = Value.int k b := by rw [h]

/-- The slice lies in a block from B on, if anywhere. -/
def Fr (B : Nat) (v : Value) : Prop := ∀ b o n cap, v = .slice (some ⟨b, o, none⟩) n cap → B ≤ b
theorem fr_cut {B : Nat} {ad : Option Addr} {n n' cap : Nat} (h : Fr B (.slice ad n cap)) : Fr B (.slice ad n' cap) := by
  intro b o m c e
  injection e with e1 e2 e3
  subst e1
  exact h b o n cap rfl

/-- What trim leaves: cut behind the last that isn't nought. -/
def TrimPost (v : Value) (zs : List Int) (w : World) (e : Ending) (w' : World) : Prop :=
  w' = w ∧ ∃ v' n, e = .returned v' ∧ n ≤ zs.length ∧ Arr w v' (zs.take n) ∧ (∀ i, n ≤ i → zs.getD i 0 = 0) ∧ (n = 0 ∨ zs.getD (n - 1) 0 ≠ 0) ∧ ∀ B, Fr B v → Fr B v'

theorem arr_take {w : World} {b o cap n : Nat} {zs : List Int} (hn : n ≤ zs.length) (hcap : zs.length ≤ cap) (hlt : b < w.heap.size) (hcell : ∀ i, i < zs.length → w.cell? ⟨b, o + i, none⟩ = some (.int .i64 (zs.getD i 0))) :
    Arr w (.slice (some ⟨b, o, none⟩) n cap) (zs.take n) := by
  refine Or.inr ⟨b, o, cap, by rw [List.length_take, Nat.min_eq_left hn], by rw [List.length_take]; omega, hlt, fun i hi => ?_⟩
  rw [List.length_take] at hi
  rw [hcell i (by omega), List.getD_eq_getElem?_getD, List.getD_eq_getElem?_getD, List.getElem?_take, if_pos (by omega)]

set_option maxHeartbeats 1000000 in
theorem trim_any (v : Value) (zs : List Int) (w : World) (hz : zs.length ≤ 1000) (h : Arr w v zs) :
    Calls Tryz.prog 194 #[v] w fun e w' => TrimPost v zs w e w' := by
  rcases h with ⟨rfl, ad, cap, rfl⟩ | ⟨b, o, cap, rfl, hcap, hlt, hcell⟩
  · go_enter Tryz.func194, Tryz.ntmps194
    go_wp2
    refine wp_loop_rounds 1 ?_
    rw [rounds_succ]
    go_wp2
    go_ret
    exact ⟨rfl, .slice ad 0 cap, 0, rfl, Nat.le_refl _, Or.inl ⟨rfl, ad, cap, rfl⟩, fun i _ => by simp, Or.inl rfl, fun _ h => h⟩
  · have HC := hide hcell
    go_enter Tryz.func194, Tryz.ntmps194
    go_wp2
    go_loop [3] (fun t => ∃ n : Nat, t = .int .i64 (n : Int) ∧ n ≤ zs.length ∧ Hid (∀ i, n ≤ i → zs.getD i 0 = 0)) (fun t => (intOf t).toNat)
    case atStart => exact ⟨zs.length, rfl, Nat.le_refl _, hide (fun i hi => by rw [List.getD_eq_getElem?_getD, List.getElem?_eq_none hi]; rfl)⟩
    case round =>
      obtain ⟨n, rfl, hn, HZ⟩ := hrel
      by_cases h0 : n = 0
      · subst h0
        go_wp2
        go_ret
        exact ⟨rfl, .slice (some ⟨b, o, none⟩) 0 cap, 0, rfl, Nat.zero_le _, arr_take (Nat.zero_le _) hcap hlt (unhide HC), unhide HZ, Or.inl rfl, fun _ h => fr_cut h⟩
      · have hc := hcell (n - 1) (by omega)
        obtain ⟨x, hx⟩ : ∃ x, zs.getD (n - 1) 0 = x := ⟨_, rfl⟩
        rw [hx] at hc
        have HX := hide hx
        have hn1 : 1 ≤ n := by omega
        have ea : Hid (((n : Int) - 1).toNat = n - 1) := hide (by omega)
        clear hcell hx h0
        by_cases hx0 : x = 0
        · subst hx0
          go_wp2
          exact ⟨⟨n - 1, int_eqv (by omega), by omega, hide (fun i hi => by
            by_cases he : i = n - 1
            · subst he; exact unhide HX
            · exact unhide HZ i (by omega))⟩, by simp [intOf]; omega⟩
        · have hxb : (x == 0) = false := by rw [beq_eq_false_iff_ne]; exact hx0
          have HX0 := hide hx0
          clear hx0
          go_wp2
          go_ret
          exact ⟨rfl, .slice (some ⟨b, o, none⟩) n cap, n, rfl, hn, arr_take hn hcap hlt (unhide HC), unhide HZ, Or.inr (by rw [unhide HX]; exact unhide HX0), fun _ h => fr_cut h⟩

theorem drop_pred (l : List Int) (k : Nat) (h0 : 0 < k) (h : k ≤ l.length) : l.drop (k - 1) = l.getD (k - 1) 0 :: l.drop k := by
  rw [List.drop_eq_getElem_cons (by omega), List.getD_eq_getElem?_getD, List.getElem?_eq_getElem (by omega), show k - 1 + 1 = k by omega]; rfl

/-- Below's world: as it was, but for draws. -/
def BelowPost (b : Bool) (w : World) (e : Ending) (w' : World) : Prop := e = .returned (.bool b) ∧ Below w.heap.size w w'

set_option maxHeartbeats 2000000 in
theorem below_any (va vb : Value) (xs ys : List Int) (w : World) (ha : xs.length ≤ 1000) (hb : ys.length ≤ 1000) (hva : Arr w va xs) (hvb : Arr w vb ys)
    (da : Dc.Dig xs) (db : Dc.Dig ys) (ca : Dc.Cn xs) (cb : Dc.Cn ys) :
    Calls Tryz.prog 223 #[va, vb] w fun e w' => BelowPost (decide (Dc.val xs < Dc.val ys)) w e w' := by
  obtain ⟨xa, na, capa, rfl, hna⟩ : ∃ ad n cap, va = .slice ad n cap ∧ n = xs.length := by
    rcases hva with ⟨rfl, ad, cap, rfl⟩ | ⟨b, o, cap, rfl, _⟩
    · exact ⟨_, _, _, rfl, rfl⟩
    · exact ⟨_, _, _, rfl, rfl⟩
  obtain ⟨xb, nb, capb, rfl, hnb⟩ : ∃ ad n cap, vb = .slice ad n cap ∧ n = ys.length := by
    rcases hvb with ⟨rfl, ad, cap, rfl⟩ | ⟨b, o, cap, rfl, _⟩
    · exact ⟨_, _, _, rfl, rfl⟩
    · exact ⟨_, _, _, rfl, rfl⟩
  by_cases hl : na = nb
  · have hlx : xs.length = ys.length := by omega
    have hlb : ((na : Int) == (nb : Int)) = true := by rw [beq_iff_eq]; omega
    subst hl
    rcases Nat.eq_zero_or_pos na with h0 | h0
    · have ex : xs = [] := List.eq_nil_of_length_eq_zero (by omega)
      have ey : ys = [] := List.eq_nil_of_length_eq_zero (by omega)
      have hd : decide (Dc.val xs < Dc.val ys) = false := by rw [ex, ey]; decide
      rw [hd]
      have HD := hide hd
      have HN := hide (And.intro hna hnb)
      have HVA := hide hva
      have HVB := hide hvb
      have HX := hide (And.intro ex ey)
      clear hd hva hvb da db ca cb hna hnb ex ey hlx
      subst h0
      go_enter Tryz.func223, Tryz.ntmps223
      go_wp2
      refine wp_loop_rounds 1 ?_
      rw [rounds_succ]
      go_wp2
      go_ret
      exact ⟨rfl, Below.refl _ _⟩
    · rcases hva with ⟨e, _⟩ | ⟨ba, oa, capa', ea, _, _, hca⟩
      · exfalso; rw [e] at hna; simp at hna; omega
      rcases hvb with ⟨e, _⟩ | ⟨bb, ob, capb', eb, _, _, hcb⟩
      · exfalso; rw [e] at hnb; simp at hnb; omega
      injection ea with ea1 ea2 ea3
      injection eb with eb1 eb2 eb3
      subst ea1 eb1
      have HCA := hide hca
      have HCB := hide hcb
      have HDA := hide (And.intro da db)
      have HLX := hide hlx
      have HNA := hide (And.intro hna hnb)
      have hn1000 : na ≤ 1000 := by omega
      clear hca hcb da db ca cb hlx hna hnb ea2 eb2 ea3 eb3
      go_enter Tryz.func223, Tryz.ntmps223
      go_wp2
      go_loopw [5] (fun t wr => ∃ k m : Nat, t = .int .i64 ((k : Int) - 1) ∧ k ≤ na ∧ Hid (xs.drop k = ys.drop k) ∧ wr = w.drewN m) (fun t _ => (intOf t + 1).toNat)
      case atStart => exact ⟨na, 0, rfl, Nat.le_refl _, hide (by have h1 := unhide HNA; have h2 := unhide HLX; rw [List.drop_of_length_le (by omega), List.drop_of_length_le (by omega)]), rfl⟩
      case round =>
        obtain ⟨k, m, rfl, hk, HD, rfl⟩ := hrel
        rcases Nat.eq_zero_or_pos k with hk0 | hk0
        · subst hk0
          have hd : Hid (decide (Dc.val xs < Dc.val ys) = false) := hide (by have := unhide HD; rw [List.drop_zero, List.drop_zero] at this; rw [this]; exact decide_eq_false (by omega))
          go_wp2
          go_ret
          exact ⟨by rw [unhide hd]; rfl, below_drewN (Below.refl _ _) _⟩
        · have hca := unhide HCA (k - 1) (by have := unhide HNA; omega)
          have hcb := unhide HCB (k - 1) (by have := unhide HNA; omega)
          obtain ⟨x, hx⟩ : ∃ x, xs.getD (k - 1) 0 = x := ⟨_, rfl⟩
          obtain ⟨y, hy⟩ : ∃ y, ys.getD (k - 1) 0 = y := ⟨_, rfl⟩
          rw [hx] at hca
          rw [hy] at hcb
          have HX := hide hx
          have HY := hide hy
          clear hx hy
          have hkI : ((k : Int) - 1).toNat = k - 1 := by omega
          by_cases hxy : x = y
          · subst hxy
            go_wp2
            go_quiet (fail)
            go_wp2
            exact ⟨⟨k - 1, _, int_eqv (by omega), by omega, hide (by
              have h1 := unhide HNA
              rw [drop_pred xs k (by omega) (by omega), drop_pred ys k (by omega) (by omega), unhide HX, unhide HY, unhide HD]), rfl⟩, by simp [intOf]; omega⟩
          · have hxb : (x == y) = false := by rw [beq_eq_false_iff_ne]; exact hxy
            have hd : Hid (decide (Dc.val xs < Dc.val ys) = decide (x < y)) := hide (by
              have h1 := unhide HNA
              have h2 := unhide HDA
              have e1 : k - 1 + 1 = k := by omega
              by_cases hlt : x < y
              · rw [decide_eq_true hlt]
                exact decide_eq_true (Dc.lt_at xs ys h2.1 h2.2 (k - 1) (by omega) (unhide HLX) (by rw [e1]; exact unhide HD) (by rw [unhide HX, unhide HY]; exact hlt))
              · rw [decide_eq_false hlt]
                have := Dc.lt_at ys xs h2.2 h2.1 (k - 1) (by omega) (unhide HLX).symm (by rw [e1]; exact (unhide HD).symm) (by rw [unhide HX, unhide HY]; omega)
                exact decide_eq_false (by omega))
            have HXY := hide hxy
            clear hxy
            go_wp2
            go_quiet (fail)
            go_wp2
            go_quiet (fail)
            go_wp2
            go_ret
            exact ⟨by rw [unhide hd]; rfl, below_drewN (below_drewN (below_drewN (Below.refl _ _) _) _) _⟩
  · have hlb : ((na : Int) == (nb : Int)) = false := by rw [beq_eq_false_iff_ne]; omega
    have hd : decide (Dc.val xs < Dc.val ys) = decide (na < nb) := by
      by_cases h : na < nb
      · rw [decide_eq_true (Dc.lt_of_len xs ys da db cb (by omega)), decide_eq_true (by omega)]
      · have := Dc.lt_of_len ys xs db da ca (by omega)
        rw [decide_eq_false (by omega), decide_eq_false (by omega)]
    rw [hd]
    have HD := hide hd
    have HVA := hide hva
    have HVB := hide hvb
    have HN := hide (And.intro hna hnb)
    clear hd hva hvb da db ca cb hna hnb
    go_enter Tryz.func223, Tryz.ntmps223
    go_wp2
    go_ret
    exact ⟨rfl, Below.refl _ _⟩
end Go.Proofs.YtloamahbghjjgaaGreatDoor
