/- The walk of LexBlanks. -/
import Derived.Test.YtgoaefpkhjbkjaaGreatDoorLzB
import Derived.Deep.CutRange
import Derived.BigRegion
import Derived.BigQuiet
namespace Go.Proofs.YtgoaefpkhjbkjaaGreatDoor
open Go.RowKit

theorem lexL_place (o : Nat) (l : List UInt8) : (lexL o l).2.1 ≤ o + l.length ∧ ∀ t ∈ (lexL o l).1, 0 ≤ t.place ∧ t.place ≤ ((o + l.length : Nat) : Int) := by
  refine lex_all (M := fun o l => (lexL o l).2.1 ≤ o + l.length ∧ ∀ t ∈ (lexL o l).1, 0 ≤ t.place ∧ t.place ≤ ((o + l.length : Nat) : Int)) ?_ ?_ ?_ ?_ o l
  · intro o; rw [lexL_nil]; exact ⟨Nat.zero_le _, fun t ht => by cases ht⟩
  · intro o l ih
    rw [lexL_blank, List.length_cons, show o + (l.length + 1) = o + 1 + l.length by omega]; exact ih
  · intro o c l hc he; rw [lexL_bad o c l hc he]; exact ⟨by simp, fun t ht => by cases ht⟩
  · intro o c l hc he ih
    obtain ⟨n1, n2⟩ := tok1_len c l he
    rw [List.length_drop, show o + (tok1 (c :: l)).2.1 + ((c :: l).length - (tok1 (c :: l)).2.1) = o + (c :: l).length by simp only [List.length_cons]; omega] at ih
    rw [lexL_ok o c l hc he]
    generalize lexL (o + (tok1 (c :: l)).2.1) ((c :: l).drop (tok1 (c :: l)).2.1) = y at ih ⊢
    obtain ⟨a, b, e⟩ := y
    unfold preT
    split
    · refine ⟨ih.1, fun t ht => ?_⟩
      rw [List.singleton_append, List.mem_cons] at ht
      rcases ht with rfl | ht
      · show 0 ≤ (o : Int) ∧ (o : Int) ≤ ((o + (c :: l).length : Nat) : Int)
        omega
      · exact ih.2 t ht
    · exact ⟨ih.1, fun t ht => by cases ht⟩
def padB (k : Nat) : ByteArray := ⟨(List.replicate k 32).toArray⟩
theorem padB_size (k : Nat) : (padB k).size = k := by
  show (List.replicate k (32 : UInt8)).length = k
  simp
theorem padB_cut (k : Nat) (h : k ≤ 20) : (⟨#[32, 32, 32, 32, 32, 32, 32, 32, 32, 32, 32, 32, 32, 32, 32, 32, 32, 32, 32, 32]⟩ : ByteArray).extract 0 k = padB k := by
  rw [ext_take]
  unfold padB
  show (⟨((List.replicate 20 (32 : UInt8)).take k).toArray⟩ : ByteArray) = _
  rw [List.take_replicate, Nat.min_eq_left h]
theorem pad_bl (k : Nat) : (List.replicate k (32 : UInt8)).all isBl = true := by
  rw [List.all_eq_true]
  intro c hc
  rw [List.eq_of_mem_replicate hc]; rfl
theorem lexT_L (l : List UInt8) (h : l.length ≤ 512) : lexT l = lexL 0 l := by unfold lexT; rw [if_neg (by omega)]
theorem pad_lex (b : ByteArray) (k : Nat) (h : b.size ≤ 150) (hk : k ≤ 20) : lexT ((padB k ++ b) ++ padB k).data.toList = shiftX k (lexT b.data.toList) := by
  have hb : b.data.toList.length = b.size := rfl
  have e : ((padB k ++ b) ++ padB k).data.toList = List.replicate k 32 ++ (b.data.toList ++ List.replicate k 32) := by
    unfold padB
    simp
  rw [e, lexT_L _ (by rw [List.length_append, List.length_append, List.length_replicate]; omega), lexT_L _ (by omega), lex_both _ (pad_bl k), List.length_replicate]
theorem comma_lex (b c : ByteArray) (h : b.size ≤ 150) (hc : c.size ≤ 150) (h1 : (lexT b.data.toList).2.2 = 0) (h2 : (lexT c.data.toList).2.2 = 0) :
    ∃ t0 : Tk, lexT ((b ++ (⟨#[44]⟩ : ByteArray)) ++ c).data.toList = ((lexT b.data.toList).1 ++ (t0 :: (lexT c.data.toList).1.map (shiftT (b.size + 1))), 0, 0) := by
  have hb : b.data.toList.length = b.size := rfl
  have hcl : c.data.toList.length = c.size := rfl
  have e : ((b ++ (⟨#[44]⟩ : ByteArray)) ++ c).data.toList = b.data.toList ++ 44 :: c.data.toList := by simp
  rw [lexT_L b.data.toList (by omega)] at h1 ⊢
  rw [lexT_L c.data.toList (by omega)] at h2 ⊢
  refine ⟨(sgnT 8).1.put b.data.toList.length, ?_⟩
  rw [e, lexT_L _ (by rw [List.length_append, List.length_cons]; omega), lex_comma _ _ h1 h2, hb]
theorem shift_put (k : Nat) (t : Tk) : t.put (t.place + k) = shiftT k t := rfl
theorem mix_shift (ts : List Tk) (K k : Nat) (t : Tk) (ht : ts[k]? = some t) : (mixT (ts.map (shiftT K)) ts k).set k (t.put (t.place + K)) = mixT (ts.map (shiftT K)) ts (k + 1) := by
  have h1 : (ts.map (shiftT K))[k]? = some (shiftT K t) := by rw [List.getElem?_map, ht]; rfl
  have := mix_step (ts.map (shiftT K)) ts k (shiftT K t) t h1 ht rfl
  exact this
/-- Tokens behind the first ones of a row. -/
theorem toks_drop {T : TypeId} {w : World} {B g cap N : Nat} {ts us : List Tk} (h : TokRow T w B (.slice (some ⟨g, 0, none⟩) N cap) (ts ++ us)) : ToksIn w (some ⟨g, ts.length * 16, none⟩) us := by
  by_cases hu : us = []
  · exact Or.inl hu
  · obtain ⟨g', cap', e, _, hg, hc⟩ := toks0 h (by simp [hu])
    simp only [Value.slice.injEq, Option.some.injEq, Addr.mk.injEq] at e
    obtain ⟨⟨rfl, _⟩, _⟩ := e
    refine Or.inr ⟨g, _, rfl, hg, fun i t hi j u hu => ?_⟩
    have := hc (ts.length + i) t (by rw [List.getElem?_append_right (by omega), show ts.length + i - ts.length = i by omega]; exact hi) j u hu
    rw [Nat.add_mul] at this
    exact this
set_option maxRecDepth 100000 in
set_option maxHeartbeats 8000000 in
theorem lexBlanks_law (s t : ByteArray) (n : Int) (w : World) (hs : s.size ≤ maxLen) (ht : t.size ≤ maxLen) (hn : (Lit.int .u8 n).wf = true) (he : Env5 w) :
    Calls Tryz.prog 6 #[.string s, .string t, .int .u8 n] w fun e w' => e = .returned (.bool true) ∧ Below w.heap.size w w' := by
  have HE := hide he
  clear he
  unfold maxLen at hs ht
  have hn : 0 ≤ n ∧ n ≤ 255 := by simpa [Lit.wf, IntKind.min, IntKind.max, IntKind.bits, IntKind.signed] using hn
  have HWK := hide wakes5
  go_enter Tryz.func6, Tryz.ntmps6
  go_upto_region 1 with fail
  have HB0 := hide (Below.refl w.heap.size w)
  go_cut [0, 1] from 22 to 31 (fun x y wx => x = .string (s.extract 0 (min (s.size : Int) 150).toNat) ∧ y = .string (t.extract 0 (min (t.size : Int) 150).toNat) ∧ Hid (Below w.heap.size w wx))
  case first =>
    replace HB0 := hide (unhide HB0).drew
    go_region
    all_goals (try go_wp2_with fail)
    all_goals go_meet
    all_goals exact ⟨rfl, rfl, HB0⟩
  case rest =>
    obtain ⟨rfl, rfl, HB⟩ := hcut
    clear HB0
    have HZ1 := hide (cut150 s)
    have HZ2 := hide (cut150 t)
    generalize s.extract 0 (min (s.size : Int) 150).toNat = b at HZ1 ⊢
    generalize t.extract 0 (min (t.size : Int) 150).toNat = d at HZ2 ⊢
    have hb : b.size ≤ 150 := unhide HZ1
    have hd : d.size ≤ 150 := unhide HZ2
    clear HZ1 HZ2
    go_upto_region 3 with fail
    obtain ⟨K, hK, hK2⟩ : ∃ K : Nat, n % 20 = (K : Int) ∧ K < 20 := ⟨(n % 20).toNat, by omega, by omega⟩
    rw [hK]
    clear hK hn
    have hpc := padB_cut K (by omega)
    have hpz := padB_size K
    have z20 : (⟨#[32, 32, 32, 32, 32, 32, 32, 32, 32, 32, 32, 32, 32, 32, 32, 32, 32, 32, 32, 32]⟩ : ByteArray).size = 20 := rfl
    have i1 : (0 : Int) ≤ (K : Int) := by omega
    have i2 : (K : Int) ≤ 20 := by omega
    go_upto_region 4 with fail
    clear hpc z20
    have HPL := hide (pad_lex b K hb (by omega))
    have HPS : Hid (((padB K ++ b) ++ padB K).size ≤ 1000) := hide (by rw [ByteArray.size_append, ByteArray.size_append, hpz]; omega)
    generalize padB K = pb at HPL HPS hpz ⊢
    have HP1 := hide (fun w he => lex5_val b w (by omega) he)
    have HP2 := hide (fun w he => lex5_val ((pb ++ b) ++ pb) w (unhide HPS) he)
    rw [unhide HPL] at HP2
    have HC := hide (lexT_count b.data.toList)
    have HER := hide (lexT_err b.data.toList)
    have HPP := hide (show (lexT b.data.toList).2.1 ≤ 150 ∧ ∀ t ∈ (lexT b.data.toList).1, 0 ≤ t.place ∧ t.place ≤ 150 from by
      have h := lexL_place 0 b.data.toList
      have hl : b.data.toList.length = b.size := rfl
      rw [← lexT_L b.data.toList (by omega), Nat.zero_add, hl] at h
      exact ⟨by omega, fun t ht => by have := h.2 t ht; omega⟩)
    have HCM := hide (comma_lex b d hb hd)
    have HQ1 := hide (fun w he => lex5_val d w (by omega) he)
    have HQC := hide (lexT_count d.data.toList)
    have HQX := hide (lexT_text d.data.toList (show d.size ≤ 1000 by omega))
    have HCS : Hid (((b ++ (⟨#[44]⟩ : ByteArray)) ++ d).size ≤ 1000) := hide (by rw [ByteArray.size_append, ByteArray.size_append]; show b.size + 1 + d.size ≤ 1000; omega)
    have HR := hide (fun w he => lex5_val ((b ++ (⟨#[44]⟩ : ByteArray)) ++ d) w (unhide HCS) he)
    generalize lexT d.data.toList = Y at HCM HQ1 HQC HQX
    generalize lexT b.data.toList = X at HP1 HP2 HC HER HPP HCM
    obtain ⟨ts, p, x⟩ := X
    obtain ⟨us, q, y⟩ := Y
    have HER : Hid (x ≠ 0 → ts = []) := HER
    have hcnt : ts.length ≤ 512 := unhide HC
    have hqcnt : us.length ≤ 512 := unhide HQC
    have hpp : p ≤ 150 := (unhide HPP).1
    have HPP : Hid (∀ t ∈ ts, 0 ≤ t.place ∧ t.place ≤ 150) := hide (unhide HPP).2
    have HQX : Hid (∀ t ∈ us, t.text.size ≤ 1000) := HQX
    have HCM : Hid (x = 0 → y = 0 → ∃ t0 : Tk, lexT ((b ++ (⟨#[44]⟩ : ByteArray)) ++ d).data.toList = (ts ++ (t0 :: us.map (shiftT (b.size + 1))), 0, 0)) := HCM
    clear HC HQC HPL
    obtain ⟨N, hN⟩ : ∃ N, ts.length = N := ⟨_, rfl⟩
    have HN := hide hN
    rw [hN] at hcnt
    clear hN
    go_wp2_with fail
    refine (unhide HP1 _ ((unhide HE).below (unhide HB))).mono ?_
    rintro e w1 ⟨v, rfl, HT, bb⟩
    have HT1 : Hid (TokRow 41 w1 _ v ts) := hide HT
    have hsz1 := (unhide HB).size
    replace HB := hide (below_nx (unhide HB) bb)
    clear HT bb HP1
    obtain ⟨a, cap, hv, _, _⟩ := toks_of_row (unhide HT1)
    subst hv
    rw [unhide HN] at HT1 ⊢
    have HV := hide (tokrow_block (unhide HT1))
    have y1 : (9223372036854775807 < pb.size + b.size) = False := eq_false (by omega)
    have y2 : (9223372036854775807 < (pb ++ b).size + pb.size) = False := by rw [ByteArray.size_append]; exact eq_false (by omega)
    have y3 : pb.size + b.size ≤ 9223372036854775807 := by omega
    have y4 : (pb ++ b).size + pb.size ≤ 9223372036854775807 := by rw [ByteArray.size_append]; omega
    go_wp2_with fail
    refine (unhide HP2 _ ((unhide HE).below (unhide HB))).mono ?_
    rintro e w2 ⟨v2, rfl, HT, bb⟩
    clear y1 y2 y3 y4
    have HT2 : Hid (TokRow 41 w2 w1.heap.size v2 (ts.map (shiftT K))) := hide HT
    replace HT1 := hide (tokrow_below (unhide HT1) bb)
    have hsz2 := (unhide HB).size
    replace HB := hide (below_nx (unhide HB) bb)
    clear HT bb HP2
    obtain ⟨a2, cap2, hv2, _, _⟩ := toks_of_row (unhide HT2)
    subst hv2
    rw [List.length_map, unhide HN] at HT2 ⊢
    go_wp2_with fail
    refine (unhide HWK _ ((unhide HE).below (unhide HB))).mono ?_
    rintro e w3 ⟨rfl, bb⟩
    replace HT1 := hide (tokrow_below (unhide HT1) bb)
    replace HT2 := hide (tokrow_below (unhide HT2) bb)
    replace HB := hide (below_nx (unhide HB) bb)
    clear bb
    have hwr : IntKind.i64.wrap ((p : Int) + (K : Int)) = ((p + K : Nat) : Int) := IntWalk.i64_in _ (by omega)
    unfold shiftX
    simp only []
    by_cases hx : x = 0
    · subst hx
      go_upto_region 8 with fail
      go_wp2
      go_loopw [80] (fun i wr => ∃ k : Nat, k ≤ N ∧ i = .int .i64 (k : Int) ∧ Hid (TokRow 41 wr wc.heap.size (.slice a N cap) (mixT (ts.map (shiftT K)) ts k)) ∧ Hid (TokRow 41 wr w1.heap.size (.slice a2 N cap2) (ts.map (shiftT K))) ∧ Hid (Below w.heap.size w wr)) (fun i _ => N - (intOf i).toNat)
      case atStart => exact ⟨0, Nat.zero_le _, rfl, HT1, HT2, HB⟩
      case round =>
        clear HT1 HT2 HB
        obtain ⟨k, hk, rfl, HT1, HT2, HB⟩ := hrel
        by_cases hkl : k < N
        · obtain ⟨t, ht⟩ : ∃ t, ts[k]? = some t := ⟨_, List.getElem?_eq_getElem (by rw [unhide HN]; exact hkl)⟩
          have hpl := unhide HPP t (List.mem_of_getElem? ht)
          have hmk := mix_at (ts.map (shiftT K)) ts k t (by rw [List.length_map, unhide HN]; exact hk) ht
          have hstep := mix_shift ts K k t ht
          have hst : (ts.map (shiftT K))[k]? = some (t.put (t.place + K)) := by rw [List.getElem?_map, ht]; rfl
          obtain ⟨g, cp, e1, hg1, hg2, hc1⟩ := toks0 (unhide HT1) (by intro e; rw [e] at hmk; cases hmk)
          obtain ⟨g2, cp2, e2, hg3, hg4, hc2⟩ := toks0 (unhide HT2) (by intro e; rw [e] at hst; cases hst)
          simp only [Value.slice.injEq] at e1 e2
          obtain ⟨rfl, _, rfl⟩ := e1
          obtain ⟨rfl, _, rfl⟩ := e2
          have hne : g2 ≠ g := by
            have := (unhide HV g N cap rfl).2
            omega
          obtain ⟨S1, S2⟩ := tokrow_set (unhide HT1) k t hmk (t.place + K)
          rw [hstep] at S1
          have SH := hide S1
          have cu : wr.cell? ⟨g, k * 16 + 15, none⟩ = some (.int .i64 t.place) := hc1 k t hmk 15 _ rfl
          have HT2' := hide (tokrow_setfar (unhide HT2) (g := g) (fun g' a' c' e => by cases e; exact hne) (k * 16 + 15) (.int .i64 (t.place + K)))
          have HB' := hide (below_set (B := g) (i := k * 16 + 15) (unhide HB) (by omega) (.int .i64 (t.place + K)))
          have HHM : Hid ((mixT (ts.map (shiftT K)) ts (k + 1))[k]? = some (t.put (t.place + K))) := hide (by
            rw [← hstep, List.getElem?_set_self (by have := (List.getElem?_eq_some_iff.1 hmk).1; exact this)])
          have HST := hide hst
          have hwp : IntKind.i64.wrap (t.place + (K : Int)) = t.place + (K : Int) := IntWalk.i64_in _ (by omega)
          clear hc1 hc2 S1 hmk hstep ht hst
          go_upto_region 12 with fail
          clear cu S2 HT1 HT2 HB
          generalize hW : wr.setCell ⟨g, k * 16 + 15, none⟩ (.int .i64 (t.place + (K : Int))) = W5 at SH HT2' HB' ⊢
          clear hW
          obtain ⟨_, _, e1, _, _, hc1⟩ := toks0 (unhide SH) (by intro e; have := unhide HHM; rw [e] at this; cases this)
          obtain ⟨_, _, e2, _, _, hc2⟩ := toks0 (unhide HT2') (by intro e; have := unhide HST; rw [e] at this; cases this)
          simp only [Value.slice.injEq, Option.some.injEq, Addr.mk.injEq] at e1 e2
          obtain ⟨⟨rfl, _⟩, _⟩ := e1
          obtain ⟨⟨rfl, _⟩, _⟩ := e2
          obtain ⟨t', ht'⟩ : ∃ t' : Tk, t.put (t.place + (K : Int)) = t' := ⟨_, rfl⟩
          rw [ht'] at HHM HST
          clear ht'
          obtain ⟨v_0, v_1, v_2, v_3, v_4, v_5, v_6, v_7, v_8, v_9, v_10, v_11, v_12, v_13, v_14, v_15⟩ := toks0_at hc1 k t' (unhide HHM)
          obtain ⟨u_0, u_1, u_2, u_3, u_4, u_5, u_6, u_7, u_8, u_9, u_10, u_11, u_12, u_13, u_14, u_15⟩ := toks0_at hc2 k t' (unhide HST)
          clear hc1 hc2
          have NE := fun w => tok_ne_self t'.kind t'.num t'.fail t'.place t'.text t'.ref.book t'.ref.sheet t'.ref.a.col t'.ref.a.row t'.ref.a.fc t'.ref.a.fr t'.ref.b.col t'.ref.b.row t'.ref.b.fc t'.ref.b.fr t'.ref.wide w
          go_wp2_with fail
          go_quiet (fail)
          clear v_0 v_1 v_2 v_3 v_4 v_5 v_6 v_7 v_8 v_9 v_10 v_11 v_12 v_13 v_14 v_15 u_0 u_1 u_2 u_3 u_4 u_5 u_6 u_7 u_8 u_9 u_10 u_11 u_12 u_13 u_14 u_15
          go_wp2
          go_roundw
          case rel => exact ⟨k + 1, by omega, by go_num, hide (tokrow_below (unhide SH) (below_drewN (Below.refl _ _) _)), hide (tokrow_below (unhide HT2') (below_drewN (Below.refl _ _) _)), hide (below_drewN (unhide HB') _)⟩
          case measure => simp [intOf]; omega
        · clear HT1 HT2
          go_wp2_with fail
          refine (unhide HQ1 _ ((unhide HE).below (unhide HB))).mono ?_
          rintro e w4 ⟨v4, rfl, HT, bb⟩
          have HT4 : Hid (TokRow 41 w4 _ v4 us) := hide HT
          replace HB := hide (below_nx (unhide HB) bb)
          clear HT bb HQ1
          obtain ⟨a4, cap4, hv4, _, hin4⟩ := toks_of_row (unhide HT4)
          subst hv4
          have HI4 := hide hin4
          clear hin4 HT4
          have z1 : (⟨#[44]⟩ : ByteArray).size = 1 := rfl
          have y1 : (9223372036854775807 < b.size + (⟨#[44]⟩ : ByteArray).size) = False := by rw [z1]; exact eq_false (by omega)
          have y2 : (9223372036854775807 < (b ++ (⟨#[44]⟩ : ByteArray)).size + d.size) = False := by rw [ByteArray.size_append, z1]; exact eq_false (by omega)
          have y3 : b.size + (⟨#[44]⟩ : ByteArray).size ≤ 9223372036854775807 := by rw [z1]; omega
          have y4 : (b ++ (⟨#[44]⟩ : ByteArray)).size + d.size ≤ 9223372036854775807 := by rw [ByteArray.size_append, z1]; omega
          by_cases hy : y = 0
          · subst hy
            obtain ⟨t0, hcm⟩ := unhide HCM (by first | rfl | trivial) (by first | rfl | trivial)
            rw [hcm] at HR
            clear hcm HCM
            go_wp2_with fail
            refine (unhide HR _ ((unhide HE).below (unhide HB))).mono ?_
            rintro e w5 ⟨v5, rfl, HT, bb⟩
            clear y1 y2 y3 y4 z1
            have HT5 : Hid (TokRow 41 w5 w4.heap.size v5 (ts ++ (t0 :: us.map (shiftT (b.size + 1))))) := hide HT
            replace HI4 := hide (toks_below (unhide HI4) bb)
            replace HB := hide (below_nx (unhide HB) bb)
            clear HT bb HR
            obtain ⟨a5, cap5, hv5, hcap5, _⟩ := toks_of_row (unhide HT5)
            obtain ⟨g5, cap6, e5, _, _, _⟩ := toks0 (unhide HT5) (by simp)
            rw [hv5] at e5
            simp only [Value.slice.injEq] at e5
            obtain ⟨e5, _, hcc⟩ := e5
            clear hcc
            subst e5
            subst hv5
            obtain ⟨M, hM⟩ : ∃ M, us.length = M := ⟨_, rfl⟩
            have hlen5 : (ts ++ (t0 :: us.map (shiftT (b.size + 1)))).length = N + 1 + M := by
              rw [List.length_append, List.length_cons, List.length_map, unhide HN, hM]; omega
            have HI5 : Hid (ToksIn w5 (some ⟨g5, (N + 1) * 16, none⟩) (us.map (shiftT (b.size + 1)))) := hide (by
              have h := unhide HT5
              rw [show ts ++ (t0 :: us.map (shiftT (b.size + 1))) = (ts ++ [t0]) ++ us.map (shiftT (b.size + 1)) by simp] at h
              have h2 := toks_drop h
              rw [List.length_append, List.length_singleton, unhide HN] at h2
              exact h2)
            have HJ1 := hide (fun a cap w he hin => join5_val a cap (us.map (shiftT (b.size + 1))) w he hin (by rw [List.length_map]; omega) (fun t ht => by
              obtain ⟨t1, h1, rfl⟩ := List.mem_map.1 ht
              exact unhide HQX t1 h1))
            have HJ2 := hide (fun a cap w he hin => join5_val a cap us w he hin (by omega) (unhide HQX))
            rw [show joinL (us.map (shiftT (b.size + 1))) = joinL us by unfold joinL; rw [show_shift], List.length_map, hM] at HJ1
            rw [hM] at HJ2 hqcnt ⊢
            generalize (⟨(joinL us).toArray⟩ : ByteArray) = jb at HJ1 HJ2
            rw [hlen5] at hcap5 ⊢
            have w1 : IntKind.i64.wrap ((N : Int) + 1) = (N : Int) + 1 := IntWalk.i64_in _ (by omega)
            have w2 : IntKind.i64.wrap ((N : Int) + 1 + (M : Int)) = (N : Int) + 1 + (M : Int) := IntWalk.i64_in _ (by omega)
            have l1 : (0 : Int) ≤ (N : Int) + 1 := by omega
            have l2 : (N : Int) + 1 ≤ ((N + 1 + M : Nat) : Int) := by omega
            by_cases hcp : cap5 = N + 1
            · have HI5 : Hid (ToksIn w5 (some ⟨g5, 0, none⟩) (us.map (shiftT (b.size + 1)))) := hide (Or.inl (by
                have : us = [] := List.eq_nil_of_length_eq_zero (by omega)
                rw [this]; rfl))
              clear hlen5 hM HT5 hcap5
              go_wp2_with fail
              refine (unhide HJ1 _ _ _ ((unhide HE).below (unhide HB)) (unhide HI5)).mono ?_
              rintro e w6 ⟨rfl, bb⟩
              replace HI4 := hide (toks_below (unhide HI4) bb)
              replace HB := hide (below_nx (unhide HB) bb)
              clear bb
              go_wp2_with fail
              refine (unhide HJ2 _ _ _ ((unhide HE).below (unhide HB)) (unhide HI4)).mono ?_
              rintro e w7 ⟨rfl, bb⟩
              replace HB := hide (below_nx (unhide HB) bb)
              clear bb
              go_wp2
              go_ret
              exact ⟨rfl, unhide HB⟩
            · clear hlen5 hM HT5 hcap5
              go_wp2_with fail
              refine (unhide HJ1 _ _ _ ((unhide HE).below (unhide HB)) (unhide HI5)).mono ?_
              rintro e w6 ⟨rfl, bb⟩
              replace HI4 := hide (toks_below (unhide HI4) bb)
              replace HB := hide (below_nx (unhide HB) bb)
              clear bb
              go_wp2_with fail
              refine (unhide HJ2 _ _ _ ((unhide HE).below (unhide HB)) (unhide HI4)).mono ?_
              rintro e w7 ⟨rfl, bb⟩
              replace HB := hide (below_nx (unhide HB) bb)
              clear bb
              go_wp2
              go_ret
              exact ⟨rfl, unhide HB⟩
          · go_wp2_with fail
            refine (unhide HR _ ((unhide HE).below (unhide HB))).mono ?_
            rintro e w5 ⟨v5, rfl, HT, bb⟩
            clear y1 y2 y3 y4 z1
            replace HB := hide (below_nx (unhide HB) bb)
            clear HT bb HR
            go_wp2
            go_ret
            exact ⟨rfl, unhide HB⟩
    · have hts := unhide HER hx
      have hN0 : N = 0 := by have := unhide HN; rw [hts] at this; exact this.symm
      subst hN0
      clear hts
      go_upto_region 8 with fail
      go_wp2
      go_loopw [80] (fun i wr => i = .int .i64 0 ∧ Hid (Below w.heap.size w wr)) (fun _ _ => 0)
      case atStart => exact ⟨rfl, HB⟩
      case round =>
        clear HT1 HT2 HB
        obtain ⟨rfl, HB⟩ := hrel
        go_wp2_with fail
        refine (unhide HQ1 _ ((unhide HE).below (unhide HB))).mono ?_
        rintro e w4 ⟨v4, rfl, HT, bb⟩
        replace HB := hide (below_nx (unhide HB) bb)
        clear HT bb HQ1
        have z1 : (⟨#[44]⟩ : ByteArray).size = 1 := rfl
        have y1 : (9223372036854775807 < b.size + (⟨#[44]⟩ : ByteArray).size) = False := by rw [z1]; exact eq_false (by omega)
        have y2 : (9223372036854775807 < (b ++ (⟨#[44]⟩ : ByteArray)).size + d.size) = False := by rw [ByteArray.size_append, z1]; exact eq_false (by omega)
        have y3 : b.size + (⟨#[44]⟩ : ByteArray).size ≤ 9223372036854775807 := by rw [z1]; omega
        have y4 : (b ++ (⟨#[44]⟩ : ByteArray)).size + d.size ≤ 9223372036854775807 := by rw [ByteArray.size_append, z1]; omega
        go_wp2_with fail
        refine (unhide HR _ ((unhide HE).below (unhide HB))).mono ?_
        rintro e w5 ⟨v5, rfl, HT, bb⟩
        clear y1 y2 y3 y4 z1
        replace HB := hide (below_nx (unhide HB) bb)
        clear HT bb HR
        go_wp2
        go_ret
        exact ⟨rfl, unhide HB⟩
end Go.Proofs.YtgoaefpkhjbkjaaGreatDoor
