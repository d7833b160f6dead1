/- The contract of first. -/
import Derived.Test.YtloamahbghjjgaaGreatDoorLxY
import Derived.Test.YtloamahbghjjgaaGreatDoorLxJ
import Derived.Test.YtloamahbghjjgaaGreatDoorLxW
import Derived.Test.YtloamahbghjjgaaGreatDoorLxZ
import Derived.Test.YtloamahbghjjgaaGreatDoorRfB
import Derived.Deep.AppendLies
namespace Go.Proofs.YtloamahbghjjgaaGreatDoor
open Go.RowKit

theorem one_list (c : UInt8) : (⟨#[c]⟩ : ByteArray).toList = [c] := by
  rw [ByteArray.toList_eq]
theorem one_ne (c k : UInt8) (h : c ≠ k) : ((⟨#[c]⟩ : ByteArray).toList == [k]) = false := by
  rw [one_list]
  simp [h]
theorem head_s (s : ByteArray) (h : 0 < s.size) : s.data.toList = s[0] :: s.data.toList.tail := by
  have h' : 0 < s.data.toList.length := h
  have e := List.drop_eq_getElem_cons h'
  rw [List.drop_zero, Nat.zero_add, tail_drop] at e
  exact e
theorem first5_val (s : ByteArray) (w : World) (hs : s.size ≤ 1000) (h0 : 0 < s.size) (he : Env5 w) :
    Calls Tryz.prog 58 #[.string s] w fun e w' => e = .returned (.tuple #[.agg (tok1 s.data.toList).1.cells, .int .i64 (tok1 s.data.toList).2.1, .int .i64 (tok1 s.data.toList).2.2]) ∧ Below w.heap.size w w' := by
  have HE := hide he
  have HD := hide (fun w => digit5_val s[0] w)
  have HL := hide (fun w => letter5_val s[0] w)
  have HA1 := hide (fun w => among_val s[0] ⟨#[95, 36, 91]⟩ w)
  have HA2 := hide (fun w => among_val s[0] ⟨#[43, 45, 42, 47, 94, 38, 61, 37, 60, 62]⟩ w)
  rw [show (⟨#[95, 36, 91]⟩ : ByteArray).data.toList = headL from rfl] at HA1
  rw [show (⟨#[43, 45, 42, 47, 94, 38, 61, 37, 60, 62]⟩ : ByteArray).data.toList.contains s[0] = opC s[0] from rfl] at HA2
  have hh := head_s s h0
  have hx : s.extract 0 1 = ⟨#[s[0]]⟩ := by
    rw [ext_take, hh]; rfl
  have hd : s.data.toList.headD 0 = s[0] := by rw [hh]; rfl
  have E : ∀ c, s.data.toList.headD 0 = c → tok1 s.data.toList = (if isDg c = true then numTok s.data.toList else if headC c = true then nameTok s.data.toList else if opC c = true then opTok s.data.toList else if c = 34 then textTok s.data.toList else if c = 35 then failTok s.data.toList else if c = 40 then sgnT 6 else if c = 41 then sgnT 7 else if c = 44 then sgnT 8 else badT 4) := by
    rintro c rfl; rfl
  have E := E _ hd
  clear hd hh
  cases q1 : isDg s[0]
  · rw [q1, if_neg (by decide)] at E
    rw [q1] at HD
    clear q1
    cases q2 : isLet s[0]
    · rw [q2] at HL
      cases q3 : headL.contains s[0]
      · rw [show headC s[0] = false by unfold headC; rw [q2, q3]; rfl, if_neg (by decide)] at E
        rw [q3] at HA1
        clear q2 q3
        cases q4 : opC s[0]
        · rw [q4, if_neg (by decide)] at E
          rw [q4] at HA2
          clear q4
          generalize hc : s[0] = c at hx E
          by_cases k34 : c = 34
          · rw [if_pos k34] at E
            rw [k34] at hx
            rw [E]
            exact fs_text s w _ _ _ h0 HE (hide (tk_row _)) HD HL HA1 HA2 hx (hide (fun w he => text5_val s w hs (by omega) he))
          rw [if_neg k34] at E
          by_cases k35 : c = 35
          · rw [if_pos k35] at E
            rw [k35] at hx
            rw [E]
            exact fs_fail s w _ _ _ h0 HE (hide (tk_row _)) HD HL HA1 HA2 hx (hide (fun w he => fail5_val s w he))
          rw [if_neg k35] at E
          by_cases k40 : c = 40
          · rw [if_pos k40] at E
            rw [k40] at hx
            rw [E]
            exact fs_open s w h0 HD HL HA1 HA2 hx
          rw [if_neg k40] at E
          by_cases k41 : c = 41
          · rw [if_pos k41] at E
            rw [k41] at hx
            rw [E]
            exact fs_close s w h0 HD HL HA1 HA2 hx
          rw [if_neg k41] at E
          by_cases k44 : c = 44
          · rw [if_pos k44] at E
            rw [k44] at hx
            rw [E]
            exact fs_comma s w h0 HD HL HA1 HA2 hx
          rw [if_neg k44] at E
          rw [E]
          exact fs_none s w h0 HD HL HA1 HA2 _ hx (one_ne _ _ k34) (one_ne _ _ k35) (one_ne _ _ k40) (one_ne _ _ k41) (one_ne _ _ k44)
        · rw [q4, if_pos rfl] at E
          rw [q4] at HA2
          rw [E]
          have k := fs_op s ⟨(s.data.toList.take (opN s.data.toList)).toArray⟩ w h0 HE HD HL HA1 HA2 (hide (fun w ht => operator_val s w (by omega) ht))
          have hn : opN s.data.toList ≤ s.data.toList.length := by
            rw [head_s s h0]
            unfold opN
            cases s.data.toList.tail with
            | nil => simp [twoB]
            | cons d l => split <;> simp
          have hz : (((⟨(s.data.toList.take (opN s.data.toList)).toArray⟩ : ByteArray).size : Nat) : Int) = ((opN s.data.toList : Nat) : Int) := by
            show (((s.data.toList.take (opN s.data.toList)).length : Nat) : Int) = _
            rw [List.length_take, Nat.min_eq_left hn]
          rw [hz] at k
          exact k
      · rw [show headC s[0] = true by unfold headC; rw [q2, q3]; rfl, if_pos rfl] at E
        rw [q3] at HA1
        rw [E]
        exact fs_head s w _ _ _ h0 HE (hide (tk_row _)) HD HL HA1 (hide (fun w he => named5_val s w hs he))
    · rw [show headC s[0] = true by unfold headC; rw [q2]; rfl, if_pos rfl] at E
      rw [q2] at HL
      rw [E]
      exact fs_let s w _ _ _ h0 HE (hide (tk_row _)) HD HL (hide (fun w he => named5_val s w hs he))
  · rw [q1, if_pos rfl] at E
    rw [q1] at HD
    rw [E]
    exact fs_num s w _ _ _ h0 HE (hide (tk_row _)) HD (hide (fun w he => number5_val s w hs he))
end Go.Proofs.YtloamahbghjjgaaGreatDoor

namespace Go.Proofs.YtloamahbghjjgaaGreatDoor
open Go.RowKit

theorem infoTok : (Tryz.prog.info? 116).map (fun i => (i.zero, i.size, i.bytes)) = some (some (.agg #[.int .i64 0, .string ⟨#[]⟩, .int .i64 0, .int .i64 0, .string ⟨#[]⟩, .string ⟨#[]⟩, .int .i64 0, .int .i64 0, .bool false, .bool false, .int .i64 0, .int .i64 0, .bool false, .bool false, .bool false, .int .i64 0]), 16, 136) := by kernel_rfl
theorem infoRTok : (Tryz.prog.info? 120).map (fun i => (i.zero, i.size, i.bytes)) = some (some (.agg #[.int .i64 0, .string ⟨#[]⟩, .int .i64 0, .int .i64 0, .string ⟨#[]⟩, .string ⟨#[]⟩, .int .i64 0, .int .i64 0, .bool false, .bool false, .int .i64 0, .int .i64 0, .bool false, .bool false, .bool false, .int .i64 0]), 16, 136) := by kernel_rfl
theorem tok_parts {P : Program} {t : TypeId} {z : Value} (h : (P.info? t).map (fun i => (i.zero, i.size, i.bytes)) = some (some z, 16, 136)) : ∃ i, P.info? t = some i ∧ i.zero = some z ∧ i.size = 16 ∧ i.bytes = 136 := by
  cases hi : P.info? t with
  | none => rw [hi] at h; cases h
  | some i =>
    rw [hi] at h
    simp only [Option.map_some, Option.some.injEq, Prod.mk.injEq] at h
    exact ⟨i, rfl, h.1, h.2.1, h.2.2⟩
/-- The cells of tokens, one behind the other. -/
def flatT (ts : List Tk) : List Value := ts.flatMap (fun t => t.cells.toList)
theorem flat_snoc (ts : List Tk) (t : Tk) : flatT (ts ++ [t]) = flatT ts ++ t.cells.toList := by
  unfold flatT; simp
theorem flat_len (ts : List Tk) : (flatT ts).length = ts.length * 16 := by
  induction ts with
  | nil => rfl
  | cons t ts ih =>
    unfold flatT at ih ⊢
    rw [List.flatMap_cons, List.length_append, ih, List.length_cons]
    have : t.cells.toList.length = 16 := rfl
    omega
/-- A row of tokens of one's own. -/
def TokRow (T : TypeId) (w : World) (B : Nat) (v : Value) (ts : List Tk) : Prop := w.ownsRow B T 16 v ts.length (flatT ts)
theorem tok_step {T : TypeId} {B : Nat} {w wr w1 : World} {v v' : Value} {ts : List Tk} {t : Tk} {o : Obj} (hb : Below B w wr) (hB : B ≤ wr.heap.size) (hown : TokRow T wr B v ts)
    (hown' : w1.ownsRow B T 16 v' (ts.length + 1) (flatT ts ++ t.cells.toList)) (hgrow : (wr.alloc o).grownBy w1 v.ownBlock) :
    TokRow T w1 B v' (ts ++ [t]) ∧ Below B w w1 := by
  refine ⟨?_, (hb.alloc hB o).grown hgrow (by simp; omega) ?_⟩
  · unfold TokRow
    rw [flat_snoc, List.length_append, List.length_singleton]
    exact hown'
  · intro j hj
    rcases hown.2 with ⟨rfl, _⟩ | ⟨g, cap, cur, rfl, hg, _⟩
    · cases hj
    · simp [Value.ownBlock] at hj; omega
theorem tokrow_below {T : TypeId} {B : Nat} {w w' : World} {v : Value} {ts : List Tk} (h : TokRow T w B v ts) (hb : Below w.heap.size w w') : TokRow T w' B v ts := by
  unfold TokRow World.ownsRow at h ⊢
  refine ⟨h.1, ?_⟩
  rcases h.2 with h | ⟨g, cap, cur, h1, h2, h3, h4⟩
  · exact Or.inl h
  · refine Or.inr ⟨g, cap, cur, h1, h2, ?_, h4⟩
    have hlt : g < w.heap.size := by
      rcases Nat.lt_or_ge g w.heap.size with h | h
      · exact h
      · rw [Array.getElem?_eq_none h] at h3; cases h3
    rw [hb.block g hlt]; exact h3
theorem results_t3 {P : Program} {fn : Func} {a b c : Tmp} (h : fn.results = #[.tmp a, .tmp b, .tmp c]) (tmps : Array Value) (w : World)
    (x : Value) (hx : tmps.getD a undef = x) (y : Value) (hy : tmps.getD b undef = y) (z : Value) (hz : tmps.getD c undef = z) :
    (results fn tmps).run P w = .ok (.tuple #[x, y, z]) w := by
  have hx' : tmps[a]?.getD undef = x := by simpa using hx
  have hy' : tmps[b]?.getD undef = y := by simpa using hy
  have hz' : tmps[c]?.getD undef = z := by simpa using hz
  simp [results, h, hx', hy', hz']
def strLen : Value → Nat
  | .string b => b.size
  | _ => 0
/-- What Lex answers. -/
def LexPost (T : TypeId) (X : Lx) (w : World) (e : Ending) (w' : World) : Prop :=
  ∃ v, e = .returned (.tuple #[v, .int .i64 (X.2.1 : Nat), .int .i64 X.2.2]) ∧ TokRow T w' w.heap.size v X.1 ∧ Below w.heap.size w w'
/-- Behind so many bytes: the tokens so far, and those of the rest. -/
structure LexAt (l : List UInt8) (o : Nat) (r : List UInt8) (ts : List Tk) : Prop where
  rest : r = l.drop o
  le : o ≤ l.length
  all : lexL 0 l = preT ts (lexL o r)
  cnt : ts.length ≤ o
theorem unbl_drop (l : List UInt8) : ∃ k, k ≤ l.length ∧ unbl l = l.drop k ∧ (∀ o, lexL o l = lexL (o + k) (l.drop k)) := by
  induction l with
  | nil => exact ⟨0, Nat.le_refl _, rfl, fun o => rfl⟩
  | cons c l ih =>
    by_cases hc : c = 32
    · subst hc
      obtain ⟨k, k1, k2, k3⟩ := ih
      refine ⟨k + 1, by simpa using k1, k2, fun o => ?_⟩
      rw [lexL_blank, k3 (o + 1), List.drop_succ_cons, show o + 1 + k = o + (k + 1) by omega]
    · refine ⟨0, Nat.zero_le _, ?_, fun o => rfl⟩
      unfold unbl
      rw [List.dropWhile_cons, if_neg (by simpa [isBl] using hc)]; rfl
theorem unbl_head (l : List UInt8) (c : UInt8) (m : List UInt8) (h : unbl l = c :: m) : c ≠ 32 := by
  induction l with
  | nil => cases h
  | cons d l ih =>
    unfold unbl at h ih
    rw [List.dropWhile_cons] at h
    by_cases hd : isBl d = true
    · rw [if_pos hd] at h; exact ih h
    · rw [if_neg hd] at h
      cases h
      simpa [isBl] using hd
theorem unbl_len (l : List UInt8) : (unbl l).length ≤ l.length := by
  obtain ⟨k, k1, k2, _⟩ := unbl_drop l
  rw [k2, List.length_drop]; omega
theorem LexAt.first (l : List UInt8) : ∃ o, LexAt l o (unbl l) [] := by
  obtain ⟨k, k1, k2, k3⟩ := unbl_drop l
  refine ⟨k, k2, k1, ?_, Nat.zero_le _⟩
  rw [k3 0, preT_nil _ (lexL_err _ _), k2, Nat.zero_add]
theorem LexAt.next {l : List UInt8} {o : Nat} {c : UInt8} {m : List UInt8} {ts : List Tk} (h : LexAt l o (c :: m) ts) (hc : c ≠ 32) (h0 : (tok1 (c :: m)).2.2 = 0) :
    ∃ o', LexAt l o' (unbl ((c :: m).drop (tok1 (c :: m)).2.1)) (ts ++ [(tok1 (c :: m)).1.put o]) := by
  obtain ⟨n1, n2⟩ := tok1_len c m h0
  obtain ⟨k, k1, k2, k3⟩ := unbl_drop ((c :: m).drop (tok1 (c :: m)).2.1)
  have hlen : (c :: m).length = l.length - o := by rw [h.rest, List.length_drop]
  rw [List.length_drop] at k1
  refine ⟨o + (tok1 (c :: m)).2.1 + k, ?_, ?_, ?_, ?_⟩
  · rw [k2, h.rest, List.drop_drop, List.drop_drop, Nat.add_assoc]
  · have := h.le; simp only [List.length_cons] at hlen k1; omega
  · rw [h.all, lexL_ok o c m hc h0, preT_pre, k3, k2]
  · have := h.cnt; rw [List.length_append, List.length_singleton]; omega
theorem LexAt.bad {l : List UInt8} {o : Nat} {c : UInt8} {m : List UInt8} {ts : List Tk} (h : LexAt l o (c :: m) ts) (hc : c ≠ 32) (h0 : (tok1 (c :: m)).2.2 ≠ 0) : lexL 0 l = ([], o, (tok1 (c :: m)).2.2) := by
  rw [h.all, lexL_bad o c m hc h0]
  unfold preT
  rw [if_neg h0]
theorem LexAt.last {l : List UInt8} {o : Nat} {ts : List Tk} (h : LexAt l o [] ts) : lexL 0 l = (ts, 0, 0) := by
  rw [h.all, lexL_nil, pre_lex, List.append_nil]
set_option maxRecDepth 100000 in
set_option maxHeartbeats 4000000 in
theorem lex5_val (s : ByteArray) (w : World) (hs : s.size ≤ 1000) (he : Env5 w) :
    Calls Tryz.prog 32 #[.string s] w fun e w' => LexPost 116 (lexT s.data.toList) w e w' := by
  obtain ⟨i0, hi, hz0, hz1, hz2⟩ := tok_parts infoTok
  have HE := hide he
  clear he
  by_cases h5 : 512 < s.size
  · have E : lexT s.data.toList = ([], 0, 7) := by unfold lexT; rw [if_pos (by exact h5)]
    rw [E]
    have h5i : 512 < (s.size : Int) := by omega
    clear E h5
    go_enter Tryz.func32, Tryz.ntmps32
    go_wp2
    refine bodyPost_ret (results_t3 rfl _ _ _ rfl _ rfl _ rfl) rfl ?_
    exact ⟨_, rfl, World.ownsRow_nil _ _ _ _, Below.refl _ _⟩
  have h5i : (s.size : Int) ≤ 512 := by omega
  have h5j : ¬ 512 < (s.size : Int) := by omega
  have E : lexT s.data.toList = lexL 0 s.data.toList := by unfold lexT; rw [if_neg (by exact h5)]
  rw [E]
  clear E
  have HU := hide (fun (b : ByteArray) w => unblanked_val b w)
  have HFI := hide (fun (b : ByteArray) w h1 h2 h3 => first5_val b w h1 h2 h3)
  obtain ⟨l, hl⟩ : ∃ l, s.data.toList = l := ⟨_, rfl⟩
  have hll : l.length = s.size := by rw [← hl]; rfl
  have HL := hide hll
  clear hll
  rw [hl]
  go_enter Tryz.func32, Tryz.ntmps32
  go_wp2_with fail
  refine (unhide HU s _).mono ?_
  rintro e w ⟨rfl, rfl⟩
  rw [hl]
  obtain ⟨o0, HA0⟩ := LexAt.first l
  go_wp2_with fail
  go_loopw [5, 6] (fun v r wr => ∃ (o : Nat) (rb : ByteArray) (ts : List Tk), r = .string rb ∧ Hid (LexAt l o rb.data.toList ts) ∧ Hid (∀ c m, rb.data.toList = c :: m → c ≠ 32) ∧ Hid (TokRow 116 wr w.heap.size v ts) ∧ Hid (Below w.heap.size w wr)) (fun _ r _ => strLen r)
  case atStart => exact ⟨o0, ⟨(unbl l).toArray⟩, [], rfl, hide HA0, hide (fun c m e => unbl_head l c m e), hide (World.ownsRow_nil _ _ _ _), hide (Below.refl _ _)⟩
  case round =>
    obtain ⟨o, rb, ts, rfl, HA, HN, HT, HB⟩ := hrel
    have hlen : rb.size + o = s.size := by
      have h1 := (unhide HA).rest
      have h2 := (unhide HA).le
      have h3 := congrArg List.length h1
      rw [List.length_drop, unhide HL] at h3
      have h4 : rb.data.toList.length = rb.size := rfl
      rw [unhide HL] at h2
      omega
    by_cases hr : rb.size = 0
    · have hnil : rb.data.toList = [] := List.eq_nil_of_length_eq_zero hr
      have HR : Hid (lexL 0 l = (ts, 0, 0)) := hide (by have := unhide HA; rw [hnil] at this; exact this.last)
      have hb0 : (rb.toList == []) = true := by rw [ByteArray.toList_eq, hnil]; rfl
      go_wp2
      refine bodyPost_ret (results_t3 rfl _ _ _ rfl _ rfl _ rfl) rfl ?_
      unfold LexPost
      rw [unhide HR]
      exact ⟨_, rfl, unhide HT, unhide HB⟩
    · have hb0 : (rb.toList == []) = false := by
        rw [ByteArray.toList_eq]
        cases h : rb.data.toList with
        | nil =>
          have : rb.data.toList.length = 0 := by rw [h]; rfl
          exact absurd this hr
        | cons c m => rfl
      have hpos : 0 < rb.size := by omega
      have HFI1 := hide (unhide HFI rb _ (by omega) hpos ((unhide HE).below (unhide HB)))
      obtain ⟨c, m, hcm⟩ : ∃ c m, rb.data.toList = c :: m := by
        cases h : rb.data.toList with
        | nil =>
          have : rb.data.toList.length = 0 := by rw [h]; rfl
          exact absurd this hr
        | cons c m => exact ⟨c, m, rfl⟩
      have HC := hide (unhide HN c m hcm)
      rw [hcm] at HFI1 HA
      obtain ⟨T, n, x, hT⟩ : ∃ T n x, tok1 (c :: m) = (T, n, x) := ⟨_, _, _, rfl⟩
      have HX := hide (unhide HA)
      have hT1 := hide (show (tok1 (c :: m)).1 = T by rw [hT])
      have hT2 := hide (show (tok1 (c :: m)).2.1 = n by rw [hT])
      have hT3 := hide (show (tok1 (c :: m)).2.2 = x by rw [hT])
      have hCM := hide hcm
      rw [hT] at HFI1
      clear hT hcm HN
      simp only [] at HFI1
      obtain ⟨kd, tx, nm, fl, ⟨bk, sh, ⟨c1, r1, f1, g1⟩, ⟨c2, r2, f2, g2⟩, wd⟩, pl⟩ := T
      unfold Tk.cells at HFI1
      simp only [] at HFI1
      go_wp2_with fail
      refine (unhide HFI1).mono ?_
      rintro e wk ⟨rfl, bk1⟩
      have HT1 := hide (tokrow_below (unhide HT) bk1)
      have HB1 := hide (below_nx (unhide HB) bk1)
      clear bk1 HT HB HFI1
      have hwr : IntKind.i64.wrap ((s.size : Int) - (rb.size : Int)) = (o : Int) := (IntWalk.i64_in _ (by omega)).trans (by omega)
      go_upto_region 8 with fail
      have V := hide (cells_new wk 116 #[.int .i64 kd, .string tx, .int .i64 nm, .int .i64 fl, .string bk, .string sh, .int .i64 c1, .int .i64 r1, .bool f1, .bool g1, .int .i64 c2, .int .i64 r2, .bool f2, .bool g2, .bool wd, .int .i64 (o : Int)])
      replace HT1 := hide (tokrow_below (unhide HT1) (below_al wk (.cells #[.int .i64 kd, .string tx, .int .i64 nm, .int .i64 fl, .string bk, .string sh, .int .i64 c1, .int .i64 r1, .bool f1, .bool g1, .int .i64 c2, .int .i64 r2, .bool f2, .bool g2, .bool wd, .int .i64 (o : Int)] 116)))
      replace HB1 := hide (below_nx (unhide HB1) (below_al wk (.cells #[.int .i64 kd, .string tx, .int .i64 nm, .int .i64 fl, .string bk, .string sh, .int .i64 c1, .int .i64 r1, .bool f1, .bool g1, .int .i64 c2, .int .i64 r2, .bool f2, .bool g2, .bool wd, .int .i64 (o : Int)] 116)))
      generalize hW : wk.alloc (.cells #[.int .i64 kd, .string tx, .int .i64 nm, .int .i64 fl, .string bk, .string sh, .int .i64 c1, .int .i64 r1, .bool f1, .bool g1, .int .i64 c2, .int .i64 r2, .bool f2, .bool g2, .bool wd, .int .i64 (o : Int)] 116) = W1 at V HT1 HB1 ⊢
      clear hW
      obtain ⟨v_0, v_1, v_2, v_3, v_4, v_5, v_6, v_7, v_8, v_9, v_10, v_11, v_12, v_13, v_14, v_15⟩ := cells16 (unhide V)
      by_cases hx0 : x = 0
      · subst hx0
        obtain ⟨n1, n2⟩ := tok1_len c m (unhide hT3)
        obtain ⟨o', HA'⟩ := (unhide HA).next (unhide HC) (unhide hT3)
        rw [unhide hT2] at n1 n2 HA'
        rw [unhide hT1] at HA'
        have HAN := hide HA'
        have hml : rb.size = m.length + 1 := by
          have : rb.data.toList.length = rb.size := rfl
          rw [unhide hCM] at this
          simp only [List.length_cons] at this
          omega
        have hex : (rb.extract n rb.size).data.toList = (c :: m).drop n := by rw [ext_drop, unhide hCM]
        have hcnt := (unhide HA).cnt
        have i1 : (0 : Int) ≤ (n : Int) := by omega
        have i2 : (n : Int) ≤ (rb.size : Int) := by omega
        have HU1 := hide (unhide HU (rb.extract n rb.size))
        rw [hex] at HU1
        have HNX := hide (fun c' m' e => unbl_head ((c :: m).drop n) c' m' e)
        have HM : Hid ((unbl ((c :: m).drop n)).length < rb.size) := hide (by
          have := unbl_len ((c :: m).drop n)
          rw [List.length_drop, List.length_cons] at this
          omega)
        clear HA' HA hT1 hT2 hT3 hCM hex HX hml n1 n2
        go_wp2_with (first
          | (at_builtin; refine wpList_append_own _ rfl _ _ 77 rfl w.heap.size 116 i0 (.agg #[.int .i64 0, .string ⟨#[]⟩, .int .i64 0, .int .i64 0, .string ⟨#[]⟩, .string ⟨#[]⟩, .int .i64 0, .int .i64 0, .bool false, .bool false, .int .i64 0, .int .i64 0, .bool false, .bool false, .bool false, .int .i64 0]) 16 136 Tryz.underlying77 hi hz0 hz1 hz2 rfl (by decide) _ _ _ rfl ((unhide HT1).alloc _) ⟨W1.heap.size, 0, none⟩ 1 1 [.int .i64 kd, .string tx, .int .i64 nm, .int .i64 fl, .string bk, .string sh, .int .i64 c1, .int .i64 r1, .bool f1, .bool g1, .int .i64 c2, .int .i64 r2, .bool f2, .bool g2, .bool wd, .int .i64 (o : Int)] rfl rfl (World.news_of_block (heap_alloc_new _ _)) (by simp [Value.oneCell']) (by unfold maxLen; omega) (by omega) (by have := (unhide HB1).size; simp; omega) ?_)
          | go_in)
        intro v' w1 hown' hgrow _
        have hB := (unhide HB1).size
        have R := hide (tok_step (t := ⟨kd, tx, nm, fl, ⟨bk, sh, ⟨c1, r1, f1, g1⟩, ⟨c2, r2, f2, g2⟩, wd⟩, (o : Int)⟩) (unhide HB1) hB (unhide HT1) hown' hgrow)
        clear hown' hgrow V v_0 v_1 v_2 v_3 v_4 v_5 v_6 v_7 v_8 v_9 v_10 v_11 v_12 v_13 v_14 v_15
        go_wp2_with fail
        refine (unhide HU1 _).mono ?_
        rintro e w2 ⟨rfl, rfl⟩
        go_wp2
        go_roundw
        case rel => exact ⟨o', _, _, rfl, HAN, HNX, hide (unhide R).1, hide (unhide R).2⟩
        case measure => exact unhide HM
      · have HR : Hid (lexL 0 l = ([], o, x)) := hide (by
          have := (unhide HA).bad (unhide HC) (by rw [unhide hT3]; exact hx0)
          rw [unhide hT3] at this
          exact this)
        go_wp2_with fail
        go_quiet (fail)
        go_wp2
        refine bodyPost_ret (results_t3 rfl _ _ _ rfl _ rfl _ rfl) rfl ?_
        unfold LexPost
        rw [unhide HR]
        exact ⟨_, rfl, World.ownsRow_nil _ _ _ _, below_drewN (unhide HB1) _⟩
end Go.Proofs.YtloamahbghjjgaaGreatDoor
