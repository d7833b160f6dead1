/- The contract of the reference's Lex. -/
import Derived.Test.YtgoaefpkhjbkjaaGreatDoorLyW
import Derived.Test.YtgoaefpkhjbkjaaGreatDoorLxV
namespace Go.Proofs.YtgoaefpkhjbkjaaGreatDoor
open Go.RowKit

theorem LexAt.zero (l : List UInt8) : LexAt l 0 (l.drop 0) [] := ⟨rfl, Nat.zero_le _, by rw [preT_nil _ (lexL_err _ _)]; rfl, Nat.le_refl _⟩
theorem LexAt.blank {l : List UInt8} {o : Nat} {m : List UInt8} {ts : List Tk} (h : LexAt l o (32 :: m) ts) : LexAt l (o + 1) (l.drop (o + 1)) ts := by
  have hd : l.drop (o + 1) = m := by
    have := h.rest
    rw [← List.drop_drop, ← this]; rfl
  have hl := congrArg List.length h.rest
  rw [List.length_cons, List.length_drop] at hl
  refine ⟨rfl, by have := h.le; omega, ?_, by have := h.cnt; omega⟩
  rw [h.all, lexL_blank, hd]
theorem LexAt.step {l : List UInt8} {o : Nat} {c : UInt8} {m : List UInt8} {ts : List Tk} (h : LexAt l o (c :: m) ts) (hc : c ≠ 32) (h0 : (tok1 (c :: m)).2.2 = 0) :
    LexAt l (o + (tok1 (c :: m)).2.1) (l.drop (o + (tok1 (c :: m)).2.1)) (ts ++ [(tok1 (c :: m)).1.put o]) := by
  obtain ⟨n1, n2⟩ := tok1_len c m h0
  have hl := congrArg List.length h.rest
  rw [List.length_cons, List.length_drop] at hl
  have hd : l.drop (o + (tok1 (c :: m)).2.1) = (c :: m).drop (tok1 (c :: m)).2.1 := by
    rw [← List.drop_drop, ← h.rest]
  refine ⟨rfl, by have := h.le; omega, ?_, by have := h.cnt; rw [List.length_append, List.length_singleton]; omega⟩
  rw [h.all, lexL_ok o c m hc h0, preT_pre, hd]
set_option maxRecDepth 100000 in
set_option maxHeartbeats 4000000 in
theorem lex5_ref (s : ByteArray) (w : World) (hs : s.size ≤ 1000) :
    Calls Tryz.prog 9 #[.string s] w fun e w' => LexPost 47 (lexT s.data.toList) w e w' := by
  obtain ⟨i0, hi, hz0, hz1, hz2⟩ := tok_parts infoRTok
  by_cases h5 : 512 < s.size
  · have E : lexT s.data.toList = ([], 0, 7) := by unfold lexT; rw [if_pos (by exact h5)]
    rw [E]
    have h5i : 512 < (s.size : Int) := by omega
    clear E h5
    go_enter Tryz.func9, Tryz.ntmps9
    go_wp2
    refine bodyPost_ret (results_t3 rfl _ _ _ rfl _ rfl _ rfl) rfl ?_
    exact ⟨_, rfl, World.ownsRow_nil _ _ _ _, Below.refl _ _⟩
  have h5i : (s.size : Int) ≤ 512 := by omega
  have h5j : ¬ 512 < (s.size : Int) := by omega
  have E : lexT s.data.toList = lexL 0 s.data.toList := by unfold lexT; rw [if_neg (by exact h5)]
  rw [E]
  clear E
  have HFI := hide (fun (b : ByteArray) w h1 h2 => one5_ref b w h1 h2)
  obtain ⟨l, hl⟩ : ∃ l, s.data.toList = l := ⟨_, rfl⟩
  have hll : l.length = s.size := by rw [← hl]; rfl
  have HL := hide hll
  rw [hl]
  have HLS := hide hl
  clear hll hl
  go_enter Tryz.func9, Tryz.ntmps9
  go_wp2
  go_loopw [5, 6] (fun v i wr => ∃ (o : Nat) (ts : List Tk), i = .int .i64 (o : Int) ∧ o ≤ s.size ∧ Hid (LexAt l o (l.drop o) ts) ∧ Hid (TokRow 47 wr w.heap.size v ts) ∧ Hid (Below w.heap.size w wr)) (fun _ i _ => s.size - (intOf i).toNat)
  case atStart => exact ⟨0, [], rfl, Nat.zero_le _, hide (LexAt.zero l), hide (World.ownsRow_nil _ _ _ _), hide (Below.refl _ _)⟩
  case round =>
    obtain ⟨o, ts, rfl, ho, HA, HT, HB⟩ := hrel
    by_cases hlt : o < s.size
    · obtain ⟨m, hcm⟩ : ∃ m, l.drop o = s[o] :: m := by
        have h1 := head5_at s o hlt
        rw [unhide HLS] at h1
        cases hd : l.drop o with
        | nil => rw [hd] at h1; cases h1
        | cons c m =>
          rw [hd, List.head?_cons, Option.some.injEq] at h1
          exact ⟨m, by rw [h1]⟩
      rw [hcm] at HA
      have hq := byte_eq s[o] 32
      rw [show ((32 : UInt8).toNat : Int) = 32 from rfl] at hq
      cases h32 : ((s[o].toNat : Int) == 32)
      · rw [h32] at hq
        have HC : Hid (s[o] ≠ 32) := hide (by simpa using hq)
        clear hq
        have i1 : (0 : Int) ≤ (o : Int) := by omega
        have i2 : (o : Int) ≤ (s.size : Int) := by omega
        have hex : (s.extract o s.size).data.toList = s[o] :: m := by rw [ext_drop, unhide HLS, hcm]
        have hes : (s.extract o s.size).size = s.size - o := by
          have h1 : (s.extract o s.size).data.toList.length = (s.extract o s.size).size := rfl
          rw [← h1, ext_drop]
          show (s.data.toList.drop o).length = _
          rw [List.length_drop]; rfl
        have HFI1 := hide (fun w => unhide HFI (s.extract o s.size) w (by omega) (by omega))
        rw [hex] at HFI1
        have hml : m.length + 1 = s.size - o := by
          have h1 : (s.extract o s.size).data.toList.length = (s.extract o s.size).size := rfl
          rw [hex, hes, List.length_cons] at h1
          exact h1
        obtain ⟨ee, ez⟩ := tokRf_e (s[o] :: m)
        obtain ⟨T, n, x, hT⟩ : ∃ T n x, tokRf (s[o] :: m) = (T, n, x) := ⟨_, _, _, rfl⟩
        rw [hT] at HFI1 ee ez
        have EE := hide ee
        have EZ := hide ez
        clear hT hcm ee ez hex hes
        simp only [] at HFI1
        obtain ⟨kd, tx, nm, fl, ⟨bk, sh, ⟨c1, r1, f1, g1⟩, ⟨c2, r2, f2, g2⟩, wd⟩, pl⟩ := T
        unfold Tk.cells at HFI1
        simp only [] at HFI1
        go_wp2_with fail
        refine (unhide HFI1 _).mono ?_
        rintro e wk ⟨rfl, bk1⟩
        have HT1 := hide (tokrow_below (unhide HT) bk1)
        have HB1 := hide (below_nx (unhide HB) bk1)
        clear bk1 HT HB HFI1
        by_cases hx0 : x = 0
        · subst hx0
          have h00 : (tok1 (s[o] :: m)).2.2 = 0 := (unhide EE).symm
          have hTT := unhide EZ h00
          obtain ⟨n1, n2⟩ := tok1_len s[o] m h00
          have HA' := (unhide HA).step (unhide HC) h00
          rw [← hTT] at n1 n2 HA'
          simp only [] at n1 n2 HA'
          have HAN := hide HA'
          have hcnt := (unhide HA).cnt
          have hwr : IntKind.i64.wrap ((o : Int) + (n : Int)) = ((o + n : Nat) : Int) := IntWalk.i64_in _ (by omega)
          clear HA' HA EE EZ hTT h00
          go_upto_region 12 with fail
          have V := hide (cells_new wk 47 #[.int .i64 kd, .string tx, .int .i64 nm, .int .i64 fl, .string bk, .string sh, .int .i64 c1, .int .i64 r1, .bool f1, .bool g1, .int .i64 c2, .int .i64 r2, .bool f2, .bool g2, .bool wd, .int .i64 (o : Int)])
          replace HT1 := hide (tokrow_below (unhide HT1) (below_al wk (.cells #[.int .i64 kd, .string tx, .int .i64 nm, .int .i64 fl, .string bk, .string sh, .int .i64 c1, .int .i64 r1, .bool f1, .bool g1, .int .i64 c2, .int .i64 r2, .bool f2, .bool g2, .bool wd, .int .i64 (o : Int)] 47)))
          replace HB1 := hide (below_nx (unhide HB1) (below_al wk (.cells #[.int .i64 kd, .string tx, .int .i64 nm, .int .i64 fl, .string bk, .string sh, .int .i64 c1, .int .i64 r1, .bool f1, .bool g1, .int .i64 c2, .int .i64 r2, .bool f2, .bool g2, .bool wd, .int .i64 (o : Int)] 47)))
          generalize hW : wk.alloc (.cells #[.int .i64 kd, .string tx, .int .i64 nm, .int .i64 fl, .string bk, .string sh, .int .i64 c1, .int .i64 r1, .bool f1, .bool g1, .int .i64 c2, .int .i64 r2, .bool f2, .bool g2, .bool wd, .int .i64 (o : Int)] 47) = W1 at V HT1 HB1 ⊢
          clear hW
          obtain ⟨v_0, v_1, v_2, v_3, v_4, v_5, v_6, v_7, v_8, v_9, v_10, v_11, v_12, v_13, v_14, v_15⟩ := cells16 (unhide V)
          go_wp2_with (first
            | (at_builtin; refine wpList_append_own _ rfl _ _ 26 rfl w.heap.size 47 i0 (.agg #[.int .i64 0, .string ⟨#[]⟩, .int .i64 0, .int .i64 0, .string ⟨#[]⟩, .string ⟨#[]⟩, .int .i64 0, .int .i64 0, .bool false, .bool false, .int .i64 0, .int .i64 0, .bool false, .bool false, .bool false, .int .i64 0]) 16 136 Tryz.underlying26 hi hz0 hz1 hz2 rfl (by decide) _ _ _ rfl ((unhide HT1).alloc _) ⟨W1.heap.size, 0, none⟩ 1 1 [.int .i64 kd, .string tx, .int .i64 nm, .int .i64 fl, .string bk, .string sh, .int .i64 c1, .int .i64 r1, .bool f1, .bool g1, .int .i64 c2, .int .i64 r2, .bool f2, .bool g2, .bool wd, .int .i64 (o : Int)] rfl rfl (World.news_of_block (heap_alloc_new _ _)) (by simp [Value.oneCell']) (by unfold maxLen; omega) (by omega) (by have := (unhide HB1).size; simp; omega) ?_)
            | go_in)
          intro v' w1 hown' hgrow _
          have hB := (unhide HB1).size
          have R := hide (tok_step (t := ⟨kd, tx, nm, fl, ⟨bk, sh, ⟨c1, r1, f1, g1⟩, ⟨c2, r2, f2, g2⟩, wd⟩, (o : Int)⟩) (unhide HB1) hB (unhide HT1) hown' hgrow)
          clear hown' hgrow V v_0 v_1 v_2 v_3 v_4 v_5 v_6 v_7 v_8 v_9 v_10 v_11 v_12 v_13 v_14 v_15
          go_wp2
          go_roundw
          case rel => exact ⟨o + n, _, by go_num, by omega, HAN, hide (unhide R).1, hide (unhide R).2⟩
          case measure => simp [intOf]; omega
        · have HR : Hid (lexL 0 l = ([], o, x)) := hide (by
            have := (unhide HA).bad (unhide HC) (by rw [← unhide EE]; exact hx0)
            rw [← unhide EE] at this
            exact this)
          go_upto_region 9 with fail
          replace HB1 := hide (below_nx (unhide HB1) (below_al wk (.cells #[.int .i64 kd, .string tx, .int .i64 nm, .int .i64 fl, .string bk, .string sh, .int .i64 c1, .int .i64 r1, .bool f1, .bool g1, .int .i64 c2, .int .i64 r2, .bool f2, .bool g2, .bool wd, .int .i64 pl] 47)))
          generalize hW : wk.alloc (.cells #[.int .i64 kd, .string tx, .int .i64 nm, .int .i64 fl, .string bk, .string sh, .int .i64 c1, .int .i64 r1, .bool f1, .bool g1, .int .i64 c2, .int .i64 r2, .bool f2, .bool g2, .bool wd, .int .i64 pl] 47) = W1 at HB1 ⊢
          clear hW
          go_wp2
          refine bodyPost_ret (results_t3 rfl _ _ _ rfl _ rfl _ rfl) rfl ?_
          unfold LexPost
          rw [unhide HR]
          exact ⟨_, rfl, World.ownsRow_nil _ _ _ _, unhide HB1⟩
      · rw [h32] at hq
        have e32 : s[o] = 32 := by simpa using hq
        rw [e32] at HA
        have HAN := hide (unhide HA).blank
        clear hq e32 HA hcm
        go_wp2
        go_roundw
        case rel => exact ⟨o + 1, ts, by go_num, by omega, HAN, HT, HB⟩
        case measure => simp [intOf]; omega
    · have HR : Hid (lexL 0 l = (ts, 0, 0)) := hide (by
        have h := unhide HA
        rw [List.drop_of_length_le (by rw [unhide HL]; omega)] at h
        exact h.last)
      go_wp2
      refine bodyPost_ret (results_t3 rfl _ _ _ rfl _ rfl _ rfl) rfl ?_
      unfold LexPost
      rw [unhide HR]
      exact ⟨_, rfl, unhide HT, unhide HB⟩
end Go.Proofs.YtgoaefpkhjbkjaaGreatDoor
