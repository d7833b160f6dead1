/- The walk of LexBack. -/
import Derived.Test.YtgoaefpkhjbkjaaGreatDoorLzN
import Derived.Test.YtgoaefpkhjbkjaaGreatDoorLxC
import Derived.Deep.CutRange
namespace Go.Proofs.YtgoaefpkhjbkjaaGreatDoor
open Go.RowKit

/-- The first k of these, the rest of those. -/
def mixT (ts us : List Tk) (k : Nat) : List Tk := ts.take k ++ us.drop k
theorem mix_zero (ts us : List Tk) : mixT ts us 0 = us := rfl
theorem mix_all (ts us : List Tk) (h : us.length = ts.length) : mixT ts us ts.length = ts := by
  unfold mixT
  rw [List.take_length, List.drop_of_length_le (by omega), List.append_nil]
theorem mix_len (ts us : List Tk) (k : Nat) (h : us.length = ts.length) (hk : k ≤ ts.length) : (mixT ts us k).length = ts.length := by
  unfold mixT
  rw [List.length_append, List.length_take, List.length_drop]; omega
theorem mix_at (ts us : List Tk) (k : Nat) (u : Tk) (hk : k ≤ ts.length) (hu : us[k]? = some u) : (mixT ts us k)[k]? = some u := by
  unfold mixT
  rw [List.getElem?_append_right (by rw [List.length_take]; omega), List.length_take, List.getElem?_drop, show k + (k - min k ts.length) = k by omega, hu]
theorem mix_step (ts us : List Tk) (k : Nat) (t u : Tk) (ht : ts[k]? = some t) (hu : us[k]? = some u) (he : u.put t.place = t) : (mixT ts us k).set k (u.put t.place) = mixT ts us (k + 1) := by
  have hk : k < ts.length := (List.getElem?_eq_some_iff.1 ht).1
  have hku : k < us.length := (List.getElem?_eq_some_iff.1 hu).1
  have hd : us.drop k = u :: us.drop (k + 1) := by
    rw [List.drop_eq_getElem_cons hku]
    congr 1
    have := List.getElem?_eq_getElem hku
    rw [hu] at this
    exact (Option.some.inj this).symm
  unfold mixT
  have hlt : (ts.take k).length = k := by rw [List.length_take]; omega
  rw [List.set_append_right _ _ (by omega), hlt, Nat.sub_self, hd, List.set_cons_zero, he, List.take_add_one, ht]
  simp
theorem bare_place (t u : Tk) (h : bare u = bare t) : u.put t.place = t := by
  obtain ⟨a, b, c, d, e, f⟩ := t
  obtain ⟨a', b', c', d', e', f'⟩ := u
  unfold bare Tk.put at h
  simp only [Tk.mk.injEq] at h
  obtain ⟨rfl, rfl, rfl, rfl, rfl, _⟩ := h
  rfl
theorem bare_at (ts us : List Tk) (h : us.map bare = ts.map bare) (k : Nat) (t u : Tk) (ht : ts[k]? = some t) (hu : us[k]? = some u) : u.put t.place = t := by
  have := congrArg (·[k]?) h
  simp only [List.getElem?_map, ht, hu, Option.map_some, Option.some.injEq] at this
  exact bare_place t u this
theorem show_bare (ts us : List Tk) (h : us.map bare = ts.map bare) : joinL us = joinL ts := by
  unfold joinL
  congr 1
  have e : ∀ l : List Tk, l.map showL = (l.map bare).map showL := by
    intro l
    rw [List.map_map]; rfl
  rw [e us, e ts, h]
theorem back_lex (l : List UInt8) (h0 : (lexT l).2.2 = 0) (hj : (joinL (lexT l).1).length ≤ 512) : ∃ us, lexT (joinL (lexT l).1) = (us, 0, 0) ∧ us.map bare = (lexT l).1.map bare := by
  have hl : ¬ 512 < l.length := by
    intro h
    unfold lexT at h0
    rw [if_pos h] at h0
    exact absurd h0 (by decide)
  have e : lexT l = lexL 0 l := by unfold lexT; rw [if_neg hl]
  rw [e] at h0 hj ⊢
  obtain ⟨us, h1, h2⟩ := (lex_back 0 l h0).1 0
  refine ⟨us, ?_, h2⟩
  unfold lexT
  rw [if_neg (by omega)]; exact h1
set_option maxRecDepth 100000 in
set_option maxHeartbeats 8000000 in
theorem lexBack_law (s : ByteArray) (w : World) (hs : s.size ≤ maxLen) (he : Env5 w) :
    Calls Tryz.prog 5 #[.string s] w fun e w' => e = .returned (.bool true) ∧ Below w.heap.size w w' := by
  have HE := hide he
  clear he
  unfold maxLen at hs
  have HWK := hide wakes5
  go_enter Tryz.func5, Tryz.ntmps5
  go_upto_region 2 with fail
  have HZ := hide (cut250 s)
  generalize s.extract 0 (min (s.size : Int) 250).toNat = b at HZ ⊢
  have hbs : b.size ≤ 250 := unhide HZ
  have HP := hide (fun w he => lex5_val b w (by omega) he)
  have HC := hide (lexT_count b.data.toList)
  have HTX := hide (lexT_text b.data.toList (show b.size ≤ 1000 by omega))
  have HER := hide (lexT_err b.data.toList)
  have HBK := hide (back_lex b.data.toList)
  generalize lexT b.data.toList = X at HP HC HTX HER HBK
  obtain ⟨ts, p, x⟩ := X
  have hcnt : ts.length ≤ 512 := unhide HC
  have HTX : Hid (∀ t ∈ ts, t.text.size ≤ 1000) := HTX
  have HER : Hid (x ≠ 0 → ts = []) := HER
  have HBK : Hid (x = 0 → (joinL ts).length ≤ 512 → ∃ us, lexT (joinL ts) = (us, 0, 0) ∧ us.map bare = ts.map bare) := HBK
  clear HC HZ
  go_wp2_with fail
  refine (unhide HP _ (unhide HE)).mono ?_
  rintro e w1 ⟨v, rfl, HT, bb⟩
  have HT1 : Hid (TokRow 41 w1 w.heap.size v ts) := hide HT
  have HB := hide bb
  clear HT bb HP
  obtain ⟨a, cap, hv, _, _⟩ := toks_of_row (unhide HT1)
  go_wp2_with fail
  refine (unhide HWK _ ((unhide HE).below (unhide HB))).mono ?_
  rintro e w2 ⟨rfl, bb⟩
  replace HT1 := hide (tokrow_below (unhide HT1) bb)
  replace HB := hide (below_nx (unhide HB) bb)
  clear bb
  by_cases hx : x = 0
  · subst hx
    have HJ := hide (fun a cap w he hin => join5_val a cap ts w he hin (by omega) (unhide HTX))
    have hjl : Hid ((joinL ts).length = (⟨(joinL ts).toArray⟩ : ByteArray).size) := hide rfl
    have hjd : Hid ((⟨(joinL ts).toArray⟩ : ByteArray).data.toList = joinL ts) := hide rfl
    generalize (⟨(joinL ts).toArray⟩ : ByteArray) = jb at HJ hjl hjd
    subst hv
    have HV := hide (tokrow_block (unhide HT1))
    obtain ⟨N, hN⟩ : ∃ N, ts.length = N := ⟨_, rfl⟩
    rw [hN] at HJ HT1 HV hcnt ⊢
    have HN := hide hN
    clear hN
    go_wp2_with fail
    refine (unhide HJ _ _ _ ((unhide HE).below (unhide HB)) (by
      obtain ⟨a', cap', e', _, h⟩ := toks_of_row (unhide HT1)
      rw [unhide HN] at e'
      cases e'
      exact h)).mono ?_
    rintro e w3 ⟨rfl, bb⟩
    replace HT1 := hide (tokrow_below (unhide HT1) bb)
    replace HB := hide (below_nx (unhide HB) bb)
    have hw3 := (unhide HB).size
    have HV3 : Hid (∀ g' a' c', Value.slice a N cap = .slice (some ⟨g', 0, none⟩) a' c' → g' < w3.heap.size) := hide (fun g' a' c' e => Nat.lt_of_lt_of_le (unhide HV g' a' c' e).2 bb.size)
    clear bb HV
    by_cases h5 : 512 < jb.size
    · have h5i : 512 < (jb.size : Int) := by omega
      go_wp2
      go_ret
      exact ⟨rfl, unhide HB⟩
    · have h5i : ¬ 512 < (jb.size : Int) := by omega
      have h5j : (jb.size : Int) ≤ 512 := by omega
      obtain ⟨us, hu1, hu2⟩ := unhide HBK (by first | rfl | trivial) (by rw [unhide hjl]; omega)
      have HQ := hide (fun w he => lex5_val jb w (by omega) he)
      rw [unhide hjd, hu1] at HQ
      have HUL : us.length = N := by
        have := congrArg List.length hu2
        rw [List.length_map, List.length_map, unhide HN] at this
        exact this
      have HU2 := hide hu2
      have HUX := hide (show joinL us = joinL ts from show_bare ts us hu2)
      clear hu1 hu2 h5
      go_wp2_with fail
      refine (unhide HQ _ ((unhide HE).below (unhide HB))).mono ?_
      rintro e w4 ⟨v2, rfl, HT, bb⟩
      have HT2 : Hid (TokRow 41 w4 w3.heap.size v2 us) := hide HT
      replace HT1 := hide (tokrow_below (unhide HT1) bb)
      replace HB := hide (below_nx (unhide HB) bb)
      clear bb HT HQ
      obtain ⟨a2, cap2, hv2, _, _⟩ := toks_of_row (unhide HT2)
      subst hv2
      rw [HUL] at HT2 ⊢
      go_wp2_with fail
      go_wp2
      go_loopw [56] (fun i wr => ∃ k : Nat, k ≤ N ∧ i = .int .i64 (k : Int) ∧ Hid (TokRow 41 wr w.heap.size (.slice a N cap) ts) ∧ Hid (TokRow 41 wr w3.heap.size (.slice a2 N cap2) (mixT ts us k)) ∧ Hid (Below w.heap.size w wr)) (fun i _ => N - (intOf i).toNat)
      case atStart => exact ⟨0, Nat.zero_le _, rfl, HT1, HT2, HB⟩
      case round =>
        clear HT1 HT2 HB
        obtain ⟨k, hk, rfl, HT1, HT2, HB⟩ := hrel
        by_cases hkl : k < N
        · obtain ⟨t, ht⟩ : ∃ t, ts[k]? = some t := ⟨_, List.getElem?_eq_getElem (by rw [unhide HN]; exact hkl)⟩
          obtain ⟨u, hu⟩ : ∃ u, us[k]? = some u := ⟨_, List.getElem?_eq_getElem (by rw [HUL]; exact hkl)⟩
          have hput := bare_at ts us (unhide HU2) k t u ht hu
          have hmk := mix_at ts us k u (by rw [unhide HN]; exact hk) hu
          have hstep := mix_step ts us k t u ht hu hput
          obtain ⟨g, cp, e1, hg1, hg2, hc1⟩ := toks0 (unhide HT1) (by intro e; rw [e] at ht; cases ht)
          obtain ⟨g2, cp2, e2, hg3, hg4, hc2⟩ := toks0 (unhide HT2) (by intro e; rw [e] at hmk; cases hmk)
          simp only [Value.slice.injEq] at e1 e2
          obtain ⟨rfl, _, rfl⟩ := e1
          obtain ⟨rfl, _, rfl⟩ := e2
          have hne : g ≠ g2 := by
            have := unhide HV3 g N cap rfl
            omega
          have HC1 := hide hc1
          obtain ⟨S1, S2⟩ := tokrow_set (unhide HT2) k u hmk t.place
          rw [hstep] at S1
          have SH := hide S1
          obtain ⟨v_0, v_1, v_2, v_3, v_4, v_5, v_6, v_7, v_8, v_9, v_10, v_11, v_12, v_13, v_14, v_15⟩ := toks0_at hc1 k t ht
          have HT1' := hide (tokrow_setfar (unhide HT1) (g := g2) (fun g' a' c' e => by cases e; exact hne) (k * 16 + 15) (.int .i64 t.place))
          have HB' := hide (below_set (B := g2) (i := k * 16 + 15) (unhide HB) (by omega) (.int .i64 t.place))
          have cu := hc2 k u hmk 15 _ rfl
          have HHT := hide ht
          have HHM : Hid ((mixT ts us (k + 1))[k]? = some t) := hide (by
            rw [← hstep, List.getElem?_set_self (by have := (List.getElem?_eq_some_iff.1 hmk).1; exact this), hput])
          clear hc1 hc2 S1 hput hmk hstep ht hu
          go_upto_region 15 with fail
          clear v_0 v_1 v_2 v_3 v_4 v_5 v_6 v_7 v_8 v_9 v_10 v_11 v_12 v_13 v_14 v_15 cu S2 HT1 HT2 HB HC1
          generalize hW : wr.setCell ⟨g2, k * 16 + 15, none⟩ (.int .i64 t.place) = W5 at SH HT1' HB' ⊢
          clear hW
          obtain ⟨_, _, e1, _, _, hc1⟩ := toks0 (unhide HT1') (by intro e; have := unhide HHT; rw [e] at this; cases this)
          obtain ⟨_, _, e2, _, _, hc2⟩ := toks0 (unhide SH) (by intro e; have := unhide HHM; rw [e] at this; cases this)
          simp only [Value.slice.injEq, Option.some.injEq, Addr.mk.injEq] at e1 e2
          obtain ⟨⟨rfl, _⟩, _⟩ := e1
          obtain ⟨⟨rfl, _⟩, _⟩ := e2
          obtain ⟨v_0, v_1, v_2, v_3, v_4, v_5, v_6, v_7, v_8, v_9, v_10, v_11, v_12, v_13, v_14, v_15⟩ := toks0_at hc1 k t (unhide HHT)
          obtain ⟨u_0, u_1, u_2, u_3, u_4, u_5, u_6, u_7, u_8, u_9, u_10, u_11, u_12, u_13, u_14, u_15⟩ := toks0_at hc2 k t (unhide HHM)
          clear hc1 hc2
          have NE := fun w => tok_ne_self t.kind t.num t.fail t.place t.text t.ref.book t.ref.sheet t.ref.a.col t.ref.a.row t.ref.a.fc t.ref.a.fr t.ref.b.col t.ref.b.row t.ref.b.fc t.ref.b.fr t.ref.wide w
          go_wp2_with fail
          go_quiet (fail)
          clear v_0 v_1 v_2 v_3 v_4 v_5 v_6 v_7 v_8 v_9 v_10 v_11 v_12 v_13 v_14 v_15 u_0 u_1 u_2 u_3 u_4 u_5 u_6 u_7 u_8 u_9 u_10 u_11 u_12 u_13 u_14 u_15
          go_wp2
          go_roundw
          case rel => exact ⟨k + 1, by omega, by go_num, hide (tokrow_below (unhide HT1') (below_drewN (Below.refl _ _) _)), hide (tokrow_below (unhide SH) (below_drewN (Below.refl _ _) _)), hide (below_drewN (unhide HB') _)⟩
          case measure => simp [intOf]; omega
        · have ek : k = N := by omega
          subst ek
          have hmx : mixT ts us k = ts := by
            have := mix_all ts us (by rw [HUL, unhide HN])
            rw [unhide HN] at this
            exact this
          rw [hmx] at HT2
          go_wp2_with fail
          refine (unhide HJ _ _ _ ((unhide HE).below (unhide HB)) (by
            obtain ⟨a', cap', e', _, h⟩ := toks_of_row (unhide HT2)
            rw [unhide HN] at e'
            cases e'
            exact h)).mono ?_
          rintro e w5 ⟨rfl, bb⟩
          replace HB := hide (below_nx (unhide HB) bb)
          clear bb
          go_wp2
          go_ret
          exact ⟨rfl, unhide HB⟩
  · have hts := unhide HER hx
    subst hts
    subst hv
    go_wp2_with fail
    refine (unhide HWK _ ((unhide HE).below (unhide HB))).mono ?_
    rintro e w3 ⟨rfl, bb⟩
    replace HB := hide (below_nx (unhide HB) bb)
    clear bb
    go_wp2
    go_ret
    exact ⟨rfl, unhide HB⟩
end Go.Proofs.YtgoaefpkhjbkjaaGreatDoor
