/- The contract of the reference's Over. -/
import Derived.Test.YtnlhgehibbgmoaaRsF
namespace Go.Proofs.Ytnlhgehibbgmoaa
open Go.RowKit

theorem owns_below {w w' : World} {B n : Nat} {v : Value} {xs : List Value} (h : w.ownsRow B 3 1 v n xs) (hb : Below w.heap.size w w') : w'.ownsRow B 3 1 v n xs := by
  obtain ⟨h1, h2⟩ := h
  refine ⟨h1, ?_⟩
  rcases h2 with h2 | ⟨g, cap, cur, e, hg, hh, r1, r2, r3, r4⟩
  · exact Or.inl h2
  · have hlt : g < w.heap.size := by
      rcases Nat.lt_or_ge g w.heap.size with h' | h'
      · exact h'
      · rw [Array.getElem?_eq_none h'] at hh; cases hh
    exact Or.inr ⟨g, cap, cur, e, hg, by rw [hb.block g hlt]; exact hh, r1, r2, r3, r4⟩

theorem arr_set {w : World} {v : Value} {zs : List Int} {B j : Nat} {u : Value} (h : Arr w v zs) (hf : Fr (B + 1) v) : Arr (w.setCell ⟨B, j, none⟩ u) v zs := by
  rcases h with h | ⟨b, o, cap, rfl, hc, hlt, hcell⟩
  · exact Or.inl h
  · have hb := hf b o _ cap rfl
    refine Or.inr ⟨b, o, cap, rfl, hc, by simpa using hlt, fun i hi => ?_⟩
    rw [World.cell?_setCell_other _ _ _ _ (by intro h; injection h with h1; omega)]
    exact hcell i hi
theorem fr_mono {A B : Nat} {v : Value} (h : Fr A v) (hab : B ≤ A) : Fr B v := fun b o n cap e => Nat.le_trans hab (h b o n cap e)

structure OverIn (xs ys os rs : List Int) (la k : Nat) : Prop where
  len : os.length = la
  zero : ∀ j, j < k → os.getD j 0 = 0
  dig : ∀ j, 0 ≤ os.getD j 0 ∧ os.getD j 0 ≤ 9
  sum : Dc.val (xs.drop k) = Dc.val (os.drop k) * Dc.val ys + Dc.val rs
  rlt : Dc.val rs < Dc.val ys
  rd : Dc.Dig rs
  rc : Dc.Cn rs
theorem over_start (xs ys : List Int) (la : Nat) (hx : xs.length ≤ la) (hy : 0 < Dc.val ys) : OverIn xs ys (List.replicate la 0) [] la la :=
  ⟨by simp, fun j _ => Dc.getD_zeros _ j, fun j => by rw [Dc.getD_zeros]; omega, by rw [List.drop_of_length_le hx, List.drop_of_length_le (by simp)]; simp [Dc.val], by simpa [Dc.val] using hy, fun x hx => by simp at hx, fun x l' e => by simp at e⟩
theorem over_step (xs ys os rs rs' : List Int) (la k : Nat) (c : Int) (h0 : 0 < k) (hk : k ≤ la) (hx : xs.length = la) (h : OverIn xs ys os rs la k)
    (hc : 0 ≤ c ∧ c ≤ 9) (hs : Dc.val rs' + c * Dc.val ys = xs.getD (k - 1) 0 + 10 * Dc.val rs) (hlt : Dc.val rs' < Dc.val ys) (rd : Dc.Dig rs') (rc : Dc.Cn rs') : OverIn xs ys (os.set (k - 1) c) rs' la (k - 1) := by
  obtain ⟨l, z, d, s, _, _, _⟩ := h
  refine ⟨by simpa using l, fun j hj => ?_, fun j => ?_, ?_, hlt, rd, rc⟩
  · rw [Dc.getD_set _ _ _ _ (by omega), if_neg (by omega)]; exact z j (by omega)
  · rw [Dc.getD_set _ _ _ _ (by omega)]
    split
    · exact hc
    · exact d j
  · rw [val_drop xs k h0 (by omega), s]
    have e : (os.set (k - 1) c).drop (k - 1) = c :: os.drop k := by
      rw [drop_pred (os.set (k - 1) c) k h0 (by simp; omega), Dc.getD_set _ _ _ _ (by omega), if_pos rfl, List.drop_set_of_lt (by omega)]
    rw [e]
    show _ = (c + 10 * Dc.val (os.drop k)) * Dc.val ys + Dc.val rs'
    rw [Int.add_mul, Int.mul_assoc]
    omega
theorem set_self (os : List Int) (i : Nat) (hi : i < os.length) (h : os.getD i 0 = 0) : os.set i 0 = os := by
  apply List.ext_getElem?
  intro j
  rw [List.getElem?_set]
  by_cases hj : i = j
  · subst hj
    rw [if_pos rfl, if_pos hi]
    rw [List.getD_eq_getElem?_getD, List.getElem?_eq_getElem hi] at h
    rw [List.getElem?_eq_getElem hi]
    exact congrArg some h.symm
  · rw [if_neg hj]
/-- The number of subtractions stays below ten. -/
theorem over_nine (y x r s c : Int) (hy : 0 < y) (hx : x ≤ 9) (hr : r < y) (hs0 : y ≤ s) (hs : s + c * y = x + 10 * r) : c + 1 ≤ 9 := by
  rcases Int.lt_or_le 8 c with h | h
  · exfalso
    have : 9 * y ≤ c * y := Int.mul_le_mul_of_nonneg_right (by omega) (by omega)
    omega
  · omega

/-- What stands at a cell, as a number. -/
def cellInt (w : World) (a : Addr) : Int := match w.cell? a with
  | some (.int _ n) => n
  | _ => 0

/-- A quotient, and what is left. -/
def OverPost (xs ys : List Int) (w : World) (e : Ending) (w' : World) : Prop :=
  Below w.heap.size w w' ∧ ∃ vq vr qs rs, e = .returned (.tuple #[vq, vr]) ∧ Arr w' vq qs ∧ Arr w' vr rs ∧ Dc.Dig qs ∧ Dc.Cn qs ∧ Dc.Dig rs ∧ Dc.Cn rs ∧ Dc.val xs = Dc.val qs * Dc.val ys + Dc.val rs ∧ Dc.val rs < Dc.val ys ∧ qs.length ≤ xs.length ∧ rs.length ≤ ys.length ∧ Fr w.heap.size vq

set_option maxRecDepth 100000 in
set_option maxHeartbeats 8000000 in
theorem over_ref (va vb : Value) (xs ys : List Int) (w : World) (hx : xs.length ≤ 200) (hy : ys.length ≤ 200) (hva : Arr w va xs) (hvb : Arr w vb ys) (dx : Dc.Dig xs) (dy : Dc.Dig ys) (cy : Dc.Cn ys) (hpos : 0 < Dc.val ys) :
    Calls Try.prog 37 #[va, vb] w fun e w' => OverPost xs ys w e w' := by
  obtain ⟨i0, hi, hz0, hz1, hz2⟩ := info_parts info3
  have HVB := hide hvb
  obtain ⟨xa, capa, rfl, hoa⟩ := arr_open hva
  obtain ⟨la, hla⟩ : ∃ la, xs.length = la := ⟨_, rfl⟩
  rw [hla] at hx hoa ⊢
  have HLA := hide hla
  have HOA := hide hoa
  have HPOS := hide hpos
  have HDX := hide (And.intro dx (And.intro dy cy))
  clear hva hvb hla hoa dx dy cy hpos
  go_enter Try.func37, Try.ntmps37
  go_wp2_with (first
    | (at_make; refine wpList_make_full _ rfl _ _ 59 rfl w.heap.size 3 i0 (.int .i64 0) 1 Try.underlying59 hi hz0 hz1 _ _ _ _ la rfl rfl rfl rfl (by rw [hz2]; omega) (by unfold maxLen; omega) (Nat.le_refl _) ?_)
    | go_in)
  intro w1 hown hgrow
  have HB : Hid (Below w.heap.size w w1) := hide ((Below.refl _ _).grown hgrow (Nat.le_refl _) (fun k hk => by cases hk))
  have HO : Hid (w1.ownsRow w.heap.size 3 1 (.slice (some ⟨w.heap.size, 0, none⟩) la la) la ((List.replicate la (0 : Int)).map (Value.int .i64))) := hide (by
    have := made_map la
    rw [Nat.mul_one] at this
    rw [← this]; exact hown)
  clear hown hgrow
  go_wp2
  go_loopw [7, 8] (fun vr t wr => ∃ (k : Nat) (os rs : List Int), t = .int .i64 ((k : Int) - 1) ∧ k ≤ la ∧ Hid (Arr wr vr rs) ∧ Hid (wr.ownsRow w.heap.size 3 1 (.slice (some ⟨w.heap.size, 0, none⟩) la la) la (os.map (Value.int .i64))) ∧ Hid (Below w.heap.size w wr) ∧ Hid (OverIn xs ys os rs la k)) (fun _ t _ => (intOf t + 1).toNat)
  case atStart => exact ⟨la, _, [], rfl, Nat.le_refl _, hide (Or.inl ⟨rfl, none, 0, rfl⟩), HO, HB, hide (over_start xs ys la (by have := unhide HLA; omega) (unhide HPOS))⟩
  case round =>
    clear HO HB
    obtain ⟨k, os, rs, rfl, hk, HR, HO, HB, HI⟩ := hrel
    obtain ⟨wo, rfl⟩ : ∃ wo, wo = wr := ⟨_, rfl⟩
    rcases Nat.eq_zero_or_pos k with hk0 | hk0
    · subst hk0
      have hol : os.length = la := (unhide HI).len
      have hod : Dc.Dig os := Dc.dig_of_getD fun j _ => (unhide HI).dig j
      have HOD := hide (And.intro hol hod)
      clear hol hod
      go_wp2_with fail
      refine (trim_any _ os _ (by have := (unhide HOD).1; omega) (arr_of_owns (unhide HOD).1.symm (unhide HO))).mono ?_
      intro e w5 hp
      obtain ⟨rfl, v', us, rfl, q1, q2, q3, q4, q5⟩ := trim_num (unhide HOD).2 hp
      have Q := hide (And.intro q1 (And.intro q2 (And.intro q3 (And.intro q4 q5))))
      clear q1 q2 q3 q4 q5 hp
      go_wp2
      go_ret2
      obtain ⟨q1, q2, q3, q4, q5⟩ := unhide Q
      have s := (unhide HI).sum
      rw [List.drop_zero, List.drop_zero] at s
      exact ⟨unhide HB, v', _, us, rs, rfl, q1, unhide HR, q2, q3, (unhide HI).rd, (unhide HI).rc, by rw [q4]; exact s, (unhide HI).rlt, by have := unhide HLA; have := (unhide HOD).1; omega, len_le ys rs (unhide HDX).2.1 (unhide HI).rd (unhide HI).rc (by have := (unhide HI).rlt; omega), q5.2 _ (fr_of_owns (unhide HO))⟩
    · have hk1 : (1 : Int) ≤ (k : Int) := by omega
      obtain ⟨ba, oa, rfl, ba1, ca⟩ := unhide HOA (by omega)
      have ca := ca (k - 1) (by omega)
      rw [← (unhide HB).cell (p := ⟨ba, oa + (k - 1), none⟩) ba1] at ca
      have sx := (unhide HDX).1.getD (k - 1)
      obtain ⟨x, hx0⟩ : ∃ x, xs.getD (k - 1) 0 = x := ⟨_, rfl⟩
      rw [hx0] at ca sx
      obtain ⟨x1, x2⟩ := sx
      have HX := hide hx0
      have ek : ((k : Int) - 1).toNat = k - 1 := by omega
      have hrl : rs.length ≤ ys.length := len_le ys rs (unhide HDX).2.1 (unhide HI).rd (unhide HI).rc (by have := (unhide HI).rlt; omega)
      obtain ⟨xr, capr, rfl, hor⟩ := arr_open (unhide HR)
      obtain ⟨lr, hlr⟩ : ∃ lr, rs.length = lr := ⟨_, rfl⟩
      rw [hlr] at hor hrl ⊢
      have HLR := hide hlr
      have HOR := hide hor
      clear hx0 hor hlr
      have hlr2 : lr ≤ 200 := by omega
      go_wp2
      go_loopw [9, 10] (fun v t wr => ∃ (m : Nat) (ns : List Int), t = .int .i64 (m : Int) ∧ m ≤ lr ∧ wr.ownsRow wo.heap.size 3 1 v ns.length (ns.map (Value.int .i64)) ∧ Hid (Below wo.heap.size wo wr) ∧ Hid (ns = x :: rs.take m)) (fun _ t _ => lr - (intOf t).toNat)
      case atStart => exact ⟨0, [x], rfl, Nat.zero_le _, World.ownsRow_lit wo #[.int .i64 x] 1 (Nat.le_refl _) (by unfold maxLen; omega) rfl, hide ((Below.refl _ _).alloc (Nat.le_refl _) _), hide rfl⟩
      case round =>
        obtain ⟨m, ns, rfl, hm, hown, HBn, HNS⟩ := hrel
        obtain ⟨wp, rfl⟩ : ∃ wp, wp = wr := ⟨_, rfl⟩
        have hnl : ns.length ≤ m + 1 := by rw [unhide HNS, List.length_cons, List.length_take]; omega
        by_cases hml : m < lr
        · obtain ⟨br, orr, rfl, br1, cr⟩ := unhide HOR (by omega)
          have cr := cr m hml
          rw [← (unhide HBn).cell (p := ⟨br, orr + m, none⟩) br1] at cr
          obtain ⟨y, hy0⟩ : ∃ y, rs.getD m 0 = y := ⟨_, rfl⟩
          rw [hy0] at cr
          have HY := hide hy0
          have HOW := hide hown
          clear hy0 hown
          go_wp2_with (first
            | (at_builtin; refine wpList_append_own _ rfl _ _ 59 rfl wo.heap.size 3 i0 (.int .i64 0) 1 8 Try.underlying59 hi hz0 hz1 hz2 rfl (by decide) _ _ _ rfl ((unhide HOW).alloc _) ⟨wp.heap.size, 0, none⟩ 1 1 [.int .i64 y] rfl rfl (one_cell _ _ _) (one_one _) (by unfold maxLen; omega) (by omega) (by have := (unhide HBn).size; simp; omega) ?_)
            | go_in)
          intro v' w2 hown' hgrow _
          have R := hide (own_step (unhide HBn) (unhide HBn).size (unhide HOW) hown' hgrow)
          clear hown' hgrow
          go_wp2
          go_roundw
          case rel => exact ⟨m + 1, ns ++ [y], by go_num, by omega, (unhide R).1, hide (unhide R).2, hide (by
            rw [unhide HNS, List.take_succ_eq_append_getElem (by have := unhide HLR; omega), List.cons_append]
            congr 2
            have := unhide HY
            rw [List.getD_eq_getElem?_getD, List.getElem?_eq_getElem (by have := unhide HLR; omega)] at this
            simpa using this.symm)⟩
          case measure => simp [intOf]; omega
        · have hm' : m = lr := by omega
          subst hm'
          have ens : ns = x :: rs := by rw [unhide HNS, List.take_of_length_le (by have := unhide HLR; omega)]
          have hnd : Dc.Dig ns := by
            rw [ens]
            intro z hz
            rcases List.mem_cons.1 hz with h | h
            · rw [h]; exact ⟨x1, x2⟩
            · exact (unhide HI).rd z h
          have hnv : Dc.val ns = x + 10 * Dc.val rs := by rw [ens]; rfl
          have HNV := hide (And.intro hnd (And.intro hnv hown))
          clear ens hnd hnv
          go_wp2_with fail
          refine (trim_any _ ns _ (by omega) (arr_of_owns rfl (unhide HNV).2.2)).mono ?_
          intro e w5 hp
          obtain ⟨rfl, v', us, rfl, q1, q2, q3, q4, q5⟩ := trim_num (unhide HNV).1 hp
          have Q : Hid (Arr w5 v' us ∧ Dc.Dig us ∧ Dc.Cn us ∧ Dc.val us = x + 10 * Dc.val rs ∧ us.length ≤ m + 1) := hide ⟨q1, q2, q3, by rw [q4]; exact (unhide HNV).2.1, by omega⟩
          have hwo := below_next (unhide HB) (unhide HBn)
          have HB2 := hide hwo
          have HO2 := hide (owns_below (unhide HO) (unhide HBn))
          clear q1 q2 q3 q4 q5 hp hwo hown HNV HNS
          have HV5 := hide ((unhide HVB).below (Nat.le_refl _) (unhide HB2))
          go_wp2_with fail
          refine (below_any _ _ us ys _ (by have := (unhide Q).2.2.2.2; omega) (by omega) (unhide Q).1 (unhide HV5) (unhide Q).2.1 (unhide HDX).2.1 (unhide Q).2.2.1 (unhide HDX).2.2).mono ?_
          rintro e w6 ⟨rfl, b6⟩
          have Q6 : Hid (Arr w6 v' us ∧ Dc.Dig us ∧ Dc.Cn us ∧ Dc.val us + 0 * Dc.val ys = x + 10 * Dc.val rs ∧ us.length ≤ 900) := hide ⟨(unhide Q).1.below (Nat.le_refl _) b6, (unhide Q).2.1, (unhide Q).2.2.1, by have := (unhide Q).2.2.2.1; omega, by have := (unhide Q).2.2.2.2; omega⟩
          have HO6 := hide (owns_below (unhide HO2) b6)
          have HB6 := hide (below_next (unhide HB2) b6)
          have hkl : k - 1 < la := by omega
          have hos : os.set (k - 1) 0 = os := set_self os (k - 1) (by have := (unhide HI).len; omega) ((unhide HI).zero (k - 1) (by omega))
          have HOS := hide hos
          clear b6 HO2 HB2 HBn Q hos
          go_wp2
          go_loopw [7, 11] (fun v l wr => ∃ (c : Int) (us : List Int), l = .bool (decide (Dc.val us < Dc.val ys)) ∧ 0 ≤ c ∧ c ≤ 9 ∧ Hid (Arr wr v us ∧ Dc.Dig us ∧ Dc.Cn us ∧ Dc.val us + c * Dc.val ys = x + 10 * Dc.val rs ∧ us.length ≤ 900) ∧
              Hid (wr.ownsRow w.heap.size 3 1 (.slice (some ⟨w.heap.size, 0, none⟩) la la) la ((os.set (k - 1) c).map (Value.int .i64))) ∧ Hid (Below w.heap.size w wr)) (fun _ _ wr => (9 - cellInt wr ⟨w.heap.size, k - 1, none⟩).toNat)
          case atStart => exact ⟨0, us, rfl, by omega, by omega, Q6, hide (by rw [unhide HOS]; exact unhide HO6), HB6⟩
          case round =>
            clear Q6 HO6 HB6 HO HB HR
            obtain ⟨c, us, rfl, hc0, hc9, QU, HO, HB⟩ := hrel
            obtain ⟨wp, rfl⟩ : ∃ wp, wp = wr := ⟨_, rfl⟩
            by_cases hlt : Dc.val us < Dc.val ys
            · rw [decide_eq_true hlt]
              have OS := hide (over_step xs ys os rs us la k c hk0 hk (unhide HLA) (unhide HI) ⟨hc0, hc9⟩ (by rw [unhide HX]; exact (unhide QU).2.2.2.1) hlt (unhide QU).2.1 (unhide QU).2.2.1)
              clear hlt
              go_wp2
              go_roundw
              case rel => exact ⟨k - 1, _, us, int_eqv (by omega), by omega, hide (unhide QU).1, HO, HB, OS⟩
              case measure => simp [intOf]; omega
            · rw [decide_eq_false hlt]
              have HLT := hide hlt
              have hc8 : c + 1 ≤ 9 := over_nine (Dc.val ys) x (Dc.val rs) (Dc.val us) c (unhide HPOS) x2 (unhide HI).rlt (by omega) (unhide QU).2.2.2.1
              have c0 := owns_cell (unhide HO) (k - 1) hkl
              rw [Dc.getD_set _ _ _ _ (by have := (unhide HI).len; omega), if_pos rfl] at c0
              clear hlt
              go_wp2_with fail
              refine (minus_ref _ _ us ys _ (unhide QU).2.2.2.2 (unhide QU).1 ((unhide HVB).below (Nat.le_refl _) (unhide HB)) (unhide QU).2.1 (unhide HDX).2.1 (unhide HDX).2.2 (by have := unhide HLT; omega)).mono ?_
              rintro e w7 ⟨b7, v7, zs, rfl, z1, z2, z3, z4, z5⟩
              have Z := hide (And.intro z1 (And.intro z2 (And.intro z3 (And.intro z4 z5))))
              have HO7 := hide (owns_below (unhide HO) b7)
              have HB7 := hide (below_next (unhide HB) b7)
              have c7 := owns_cell (unhide HO7) (k - 1) hkl
              have f7 := (unhide HO7).frozenAt (k - 1)
              rw [Dc.getD_set _ _ _ _ (by have := (unhide HI).len; omega), if_pos rfl] at c7
              have hs7 := (unhide HB7).size
              have hm0 : Hid (cellInt wp ⟨w.heap.size, k - 1, none⟩ = c) := hide (by unfold cellInt; rw [c0])
              have B7 := hide b7
              clear z1 z2 z3 z4 z5 b7 c0
              have hltB := owns_lt (unhide HO)
              have HA8 : Hid (Arr (w7.setCell ⟨w.heap.size, k - 1, none⟩ (.int .i64 (c + 1))) v7 zs) := hide (arr_set (unhide Z).1 (fr_mono (unhide Z).2.2.2.2.2 hltB))
              have HO8 : Hid ((w7.setCell ⟨w.heap.size, k - 1, none⟩ (.int .i64 (c + 1))).ownsRow w.heap.size 3 1 (.slice (some ⟨w.heap.size, 0, none⟩) la la) la ((os.set (k - 1) (c + 1)).map (Value.int .i64))) := hide (by
                have := owns_set (unhide HO7) (k - 1) (c + 1)
                rw [List.set_set] at this
                exact this)
              have HB8 := hide ((unhide HB7).setCell (p := ⟨w.heap.size, k - 1, none⟩) (Nat.le_refl _) (.int .i64 (c + 1)))
              go_wp2_with fail
              generalize w7.setCell ⟨w.heap.size, k - 1, none⟩ (.int .i64 (c + 1)) = w8 at *
              refine (below_any _ _ zs ys _ (by have := (unhide Z).2.2.2.2; have := (unhide QU).2.2.2.2; omega) (by omega) (unhide HA8) ((unhide HVB).below (Nat.le_refl _) (unhide HB8)) (unhide Z).2.1 (unhide HDX).2.1 (unhide Z).2.2.1 (unhide HDX).2.2).mono ?_
              rintro e w9 ⟨rfl, b9⟩
              have HO9 := hide (owns_below (unhide HO8) b9)
              have HM9 : Hid (cellInt w9 ⟨w.heap.size, k - 1, none⟩ = c + 1) := hide (by
                have c9 := owns_cell (unhide HO9) (k - 1) hkl
                rw [Dc.getD_set _ _ _ _ (by have := (unhide HI).len; omega), if_pos rfl] at c9
                unfold cellInt; rw [c9])
              have HB9 := hide (below_next (unhide HB8) b9)
              have Q9 : Hid (Arr w9 v7 zs ∧ Dc.Dig zs ∧ Dc.Cn zs ∧ Dc.val zs + (c + 1) * Dc.val ys = x + 10 * Dc.val rs ∧ zs.length ≤ 900) := hide ⟨(unhide HA8).below (Nat.le_refl _) b9, (unhide Z).2.1, (unhide Z).2.2.1, by
                have := (unhide QU).2.2.2.1
                rw [(unhide Z).2.2.2.1, Int.add_mul]; omega, by have := (unhide Z).2.2.2.2; have := (unhide QU).2.2.2.2; omega⟩
              clear b9 c7 f7
              go_wp2
              go_roundw
              case rel => exact ⟨c + 1, zs, rfl, by omega, by omega, Q9, HO9, HB9⟩
              case measure =>
                rw [unhide HM9, unhide hm0]
                omega
end Go.Proofs.Ytnlhgehibbgmoaa
