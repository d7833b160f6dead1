/- Plain: a token is read back from what is shown of it, and so are a formula's tokens, but for their places. -/
import Derived.Test.YtgoaefpkhjbkjaaGreatDoorLxZ
namespace Go.Proofs.YtgoaefpkhjbkjaaGreatDoor

/-- Nothing, or a blank first. -/
def BlOk (x : List UInt8) : Prop := x = [] ∨ ∃ y, x = 32 :: y
theorem bl_tw (p : UInt8 → Bool) (h32 : p 32 = false) {x : List UInt8} (h : BlOk x) : x.takeWhile p = [] := by
  rcases h with rfl | ⟨y, rfl⟩
  · rfl
  · simp [h32]
theorem tw_whole (p : UInt8 → Bool) : ∀ (l : List UInt8), l.all p = true → l.takeWhile p = l ∧ l.dropWhile p = []
  | [], _ => ⟨rfl, rfl⟩
  | c :: l, h => by
    rw [List.all_cons, Bool.and_eq_true] at h
    obtain ⟨a, b⟩ := tw_whole p l h.2
    rw [List.takeWhile_cons, if_pos h.1, List.dropWhile_cons, if_pos h.1, a, b]
    exact ⟨rfl, rfl⟩
/-! Numbers. -/
theorem dg_dig (c : UInt8) : isDg c = isDig c := rfl
theorem dg_num (c : UInt8) (h : isDg c = true) : inNumC c = true := by unfold inNumC; rw [h]; rfl
theorem all_mono {p q : UInt8 → Bool} (h : ∀ c, p c = true → q c = true) (l : List UInt8) (hl : l.all p = true) : l.all q = true := by
  rw [List.all_eq_true] at hl ⊢
  exact fun c hc => h c (hl c hc)
theorem abs_chars (p : Nat) : (absL p).all inNumC = true ∧ isDg ((absL p).headD 0) = true ∧ absL p ≠ [] := by
  obtain ⟨d1, _⟩ := dec_spec (p / 10000)
  have hl := dec_len' (p / 10000)
  have hf : (fracL (p % 10000)).all inNumC = true := by
    unfold fracL
    by_cases hr : p % 10000 = 0
    · rw [if_pos hr]; rfl
    · rw [if_neg hr, List.all_cons]
      obtain ⟨f1, _⟩ := frac_spec (p % 10000) (by omega) (by omega)
      unfold digB at f1
      rw [Bool.and_eq_true] at f1
      rw [all_mono dg_num _ f1.2]; rfl
  unfold absL
  generalize Lib.decDigits (p / 10000) = D at d1 hl ⊢
  generalize fracL (p % 10000) = F at hf ⊢
  match D, hl with
  | c :: D, _ =>
    refine ⟨?_, ?_, by simp⟩
    · rw [List.all_append, hf, all_mono dg_num _ d1]; rfl
    · rw [List.all_cons, Bool.and_eq_true] at d1
      exact d1.1
theorem num_facts (c : UInt8) (r : List UInt8) (hc : isDg c = true) (h : (parseR (c :: r)).2 = 0) : goodB (parseR (c :: r)).1 = true ∧ 0 ≤ (parseR (c :: r)).1 := by
  have hn : negOf (c :: r) = false := by
    unfold negOf Lib.hasPrefix
    have : c ≠ 45 := by rintro rfl; revert hc; decide
    simp [List.isPrefixOf, Ne.symm this]
  unfold parseR at h ⊢
  by_cases h1 : formB (c :: r) = true
  · rw [if_pos h1] at h ⊢
    by_cases h2 : nrOk (numL (wholeOf (c :: r))) 10000 1 = true
    · rw [if_pos h2] at h ⊢
      rw [hn]
      simp only [] at h ⊢
      generalize partsOf (c :: r) = v at h ⊢
      unfold sgnE at h
      unfold sgnN
      by_cases h3 : (9000000000000000000 : Int) < (v : Int)
      · rw [if_pos h3] at h; exact absurd h (by decide)
      · rw [if_neg h3, goodB_iff]
        simp only [Bool.false_eq_true, if_false]
        omega
    · rw [if_neg h2] at h; exact absurd h (by decide)
  · rw [if_neg h1] at h; exact absurd h (by decide)
theorem num_bk (n : Int) (hg : goodB n = true) (h0 : 0 ≤ n) (x : List UInt8) (hx : BlOk x) :
    ∃ d a, textL n = d :: a ∧ isDg d = true ∧ numTok (d :: a ++ x) = (⟨0, emp, n, 0, zeroF, 0⟩, (d :: a).length, 0) := by
  have hgi := (goodB_iff n).1 hg
  have et : textL n = absL n.natAbs := by unfold textL; rw [if_pos hg, if_neg (by omega)]
  obtain ⟨c1, c2, c3⟩ := abs_chars n.natAbs
  have hp := parse_text n hg
  rw [et] at hp ⊢
  generalize absL n.natAbs = A at c1 c2 c3 hp ⊢
  cases A with
  | nil => exact absurd rfl c3
  | cons d a =>
    refine ⟨d, a, rfl, c2, ?_⟩
    have e : numR (d :: a ++ x) = d :: a := by
      unfold numR
      rw [(tw_stop inNumC x (bl_tw inNumC (by decide) hx) _).1]
      exact (tw_whole inNumC _ c1).1
    unfold numTok
    rw [e, hp, if_pos rfl]
/-! Texts. -/
theorem q_back (x : List UInt8) (hx : BlOk x) : ∀ t : List UInt8, qIn (dblL t ++ 34 :: x) = some (t, (dblL t).length + 1)
  | [] => by
    rw [dblL, List.nil_append]
    rcases hx with rfl | ⟨y, rfl⟩
    · rw [qIn, if_pos rfl]; rfl
    · rw [qIn, if_pos rfl, if_neg (by decide)]; rfl
  | c :: t => by
    have ih := q_back x hx t
    rw [dblL]
    by_cases hc : c = 34
    · rw [if_pos hc, List.cons_append, List.cons_append, qIn, if_pos rfl, if_pos rfl, ih, hc]; rfl
    · rw [if_neg hc, List.cons_append]
      have hne : dblL t ++ 34 :: x ≠ [] := by simp
      generalize dblL t ++ 34 :: x = Y at ih hne ⊢
      cases Y with
      | nil => exact absurd rfl hne
      | cons d l => rw [qIn, if_neg hc, ih]; rfl
theorem text_back (t : ByteArray) (ht : t.data.toList.length ≤ 255) (x : List UInt8) (hx : BlOk x) :
    textTok (34 :: (dblL t.data.toList ++ [34]) ++ x) = (⟨1, t, 0, 0, zeroF, 0⟩, (34 :: (dblL t.data.toList ++ [34])).length, 0) := by
  unfold textTok
  rw [List.cons_append, List.tail_cons, List.append_assoc, List.singleton_append, q_back x hx]
  simp only []
  rw [if_neg (by omega)]
  simp
/-! Errors in signs. -/
theorem sig_first : ∀ f ∈ failsL, failsL.find? (fun g => (sigL g).isPrefixOf (sigL f)) = some f := by decide +kernel
theorem sig_head : ∀ f ∈ failsL, (sigL f).head? = some 35 := by decide +kernel
theorem fail_back (f : Int) (hf : f ∈ failsL) (x : List UInt8) (hx : BlOk x) : failTok (sigL f ++ x) = (⟨2, emp, 0, f, zeroF, 0⟩, (sigL f).length, 0) := by
  have e : failsL.find? (fun g => (sigL g).isPrefixOf (sigL f ++ x)) = some f := by
    rw [find_congr failsL (fun g => (sigL g).isPrefixOf (sigL f ++ x)) (fun g => (sigL g).isPrefixOf (sigL f)), sig_first f hf]
    intro g hg
    rcases hx with rfl | ⟨y, rfl⟩
    · rw [List.append_nil]
    · exact prefix_app _ _ _ _ (sig_no g hg).1
  unfold failTok
  rw [e]
/-! Operators. -/
theorem op_back (c : UInt8) (l : List UInt8) (x : List UInt8) (hx : BlOk x) : opTok ((c :: l).take (opN (c :: l)) ++ x) = ((opTok (c :: l)).1, ((c :: l).take (opN (c :: l))).length, 0) ∧ ∃ a, (c :: l).take (opN (c :: l)) = c :: a := by
  cases h2 : twoB (c :: l)
  · have e : opN (c :: l) = 1 := by unfold opN; rw [h2]; rfl
    have e1 : opN (c :: x) = 1 := by
      unfold opN
      rcases hx with rfl | ⟨y, rfl⟩
      · rfl
      · simp [twoB]
    refine ⟨?_, [], by rw [e]; rfl⟩
    unfold opTok
    rw [e, List.take_succ_cons, List.take_zero, List.cons_append, List.nil_append, e1]
    rfl
  · have e : opN (c :: l) = 2 := by unfold opN; rw [h2]; rfl
    cases l with
    | nil => simp [twoB] at h2
    | cons d l =>
      have e1 : opN (c :: d :: x) = 2 := by
        unfold opN
        have : twoB (c :: d :: x) = true := h2
        rw [this]; rfl
      refine ⟨?_, [d], by rw [e]; rfl⟩
      unfold opTok
      rw [e, List.take_succ_cons, List.take_succ_cons, List.take_zero, List.cons_append, List.cons_append, List.nil_append, e1]
      rfl
/-! Names. -/
theorem up_idem (c : UInt8) : upC (upC c) = upC c := by
  unfold upC
  by_cases h : 97 ≤ c.toNat ∧ c.toNat ≤ 122
  · rw [if_pos h]
    have : (UInt8.ofNat (c.toNat - 32)).toNat = c.toNat - 32 := by rw [UInt8.toNat_ofNat']; omega
    rw [if_neg (by rw [this]; omega)]
  · rw [if_neg h, if_neg h]
theorem up_nat (c : UInt8) : (upC c).toNat = if 97 ≤ c.toNat ∧ c.toNat ≤ 122 then c.toNat - 32 else c.toNat := by
  unfold upC
  by_cases h : 97 ≤ c.toNat ∧ c.toNat ≤ 122
  · rw [if_pos h, if_pos h, UInt8.toNat_ofNat']; omega
  · rw [if_neg h, if_neg h]
theorem upc_let (c : UInt8) : isLet (upC c) = isLet c := by
  unfold isLet
  rw [up_nat]
  by_cases h : 97 ≤ c.toNat ∧ c.toNat ≤ 122
  · rw [if_pos h, decide_eq_true (show 65 ≤ c.toNat - 32 by omega), decide_eq_true (show c.toNat - 32 ≤ 90 by omega), decide_eq_true h.1, decide_eq_true h.2]; simp
  · rw [if_neg h]
theorem up_dg (c : UInt8) : isDg (upC c) = isDg c := by
  unfold isDg
  rw [up_nat]
  by_cases h : 97 ≤ c.toNat ∧ c.toNat ≤ 122
  · rw [if_pos h, decide_eq_false (show ¬ c.toNat - 32 ≤ 57 by omega), decide_eq_false (show ¬ c.toNat ≤ 57 by omega)]; simp
  · rw [if_neg h]
theorem up_eq (c k : UInt8) (hk : k.toNat < 65 ∨ 90 < k.toNat) (hk2 : k.toNat < 97 ∨ 122 < k.toNat) : (upC c == k) = (c == k) := by
  by_cases h : 97 ≤ c.toNat ∧ c.toNat ≤ 122
  · have a : upC c ≠ k := by
      intro e
      have := congrArg UInt8.toNat e
      rw [up_nat, if_pos h] at this
      omega
    have b : c ≠ k := by rintro rfl; omega
    rw [beq_eq_false_iff_ne.2 a, beq_eq_false_iff_ne.2 b]
  · have : upC c = c := by unfold upC; rw [if_neg h]
    rw [this]
theorem up_nm (c : UInt8) : inNm (upC c) = inNm c := by
  unfold inNm
  rw [upc_let, up_dg, up_eq c 95 (by decide) (by decide)]
theorem all_map (f : UInt8 → UInt8) (p : UInt8 → Bool) (h : ∀ c, p (f c) = p c) (l : List UInt8) : (l.map f).all p = l.all p := by
  induction l with
  | nil => rfl
  | cons c l ih => rw [List.map_cons, List.all_cons, List.all_cons, h, ih]
theorem head_map (l : List UInt8) (p : UInt8 → Bool) (h : ∀ c, p (upC c) = p c) : p ((l.map upC).headD 0) = p (l.headD 0) := by
  cases l with
  | nil => rfl
  | cons c l => exact h c
theorem up_name (r : List UInt8) : nameG (r.map upC) = nameG r := by
  unfold nameG
  rw [List.length_map, all_map upC inNm up_nm, head_map r isDg up_dg]
theorem tw_map (p : UInt8 → Bool) (h : ∀ c, p (upC c) = p c) : ∀ l : List UInt8, (l.map upC).takeWhile p = (l.takeWhile p).map upC ∧ (l.map upC).dropWhile p = (l.dropWhile p).map upC
  | [] => ⟨rfl, rfl⟩
  | c :: l => by
    obtain ⟨a, b⟩ := tw_map p h l
    rw [List.map_cons, List.takeWhile_cons, List.dropWhile_cons, List.takeWhile_cons, List.dropWhile_cons, h]
    by_cases hc : p c = true
    · rw [if_pos hc, if_pos hc, if_pos hc, if_pos hc, a, b]; exact ⟨rfl, rfl⟩
    · rw [if_neg hc, if_neg hc, if_neg hc, if_neg hc]; exact ⟨rfl, rfl⟩
theorem dolB_map (l : List UInt8) : dolB (l.map upC) = dolB l := by
  unfold dolB
  cases l with
  | nil => rfl
  | cons c l =>
    rw [List.map_cons, List.head?_cons, List.head?_cons]
    have := up_eq c 36 (by decide) (by decide)
    simpa using this
theorem dolR_map (l : List UInt8) : dolR (l.map upC) = (dolR l).map upC := by
  unfold dolR
  rw [dolB_map]
  split
  · rw [List.map_tail]
  · rfl
theorem lets_map (l : List UInt8) : letsL (l.map upC) = (letsL l).map upC := by
  unfold letsL
  rw [dolR_map, (tw_map isLet upc_let _).1]
theorem rest_map (l : List UInt8) : restL (l.map upC) = (restL l).map upC := by
  unfold restL
  rw [dolR_map, (tw_map isLet upc_let _).2]
theorem ref1B_map (l : List UInt8) : ref1B (l.map upC) = ref1B l := by
  unfold ref1B
  rw [lets_map, rest_map, dolR_map, List.length_map, List.length_map, all_map upC isDg up_dg]
  rw [head_map (dolR (restL l)) (fun c => c == 48) (fun c => up_eq c 48 (by decide) (by decide))]
theorem up_dgs : ∀ (l : List UInt8), l.all isDg = true → l.map upC = l
  | [], _ => rfl
  | c :: l, h => by
    rw [List.all_cons, Bool.and_eq_true] at h
    have : upC c = c := by
      have h1 := h.1
      unfold isDg at h1
      rw [Bool.and_eq_true, decide_eq_true_iff, decide_eq_true_iff] at h1
      unfold upC
      rw [if_neg (by omega)]
    rw [List.map_cons, this, up_dgs l h.2]
theorem col_map (l : List UInt8) (n : Nat) : (l.map upC).foldl (fun n c => n * 26 + ((upL c).toNat - 65) + 1) n = l.foldl (fun n c => n * 26 + ((upL c).toNat - 65) + 1) n := by
  induction l generalizing n with
  | nil => rfl
  | cons c l ih =>
    rw [List.map_cons, List.foldl_cons, List.foldl_cons, ih]
    rw [show upL (upC c) = upL c from up_idem c]
theorem ref1V_map (l : List UInt8) (h : ref1B l = true) : ref1V (l.map upC) = ref1V l := by
  have hd : (dolR (restL l)).all isDg = true := by
    unfold ref1B at h
    rw [Bool.and_eq_true] at h
    exact h.2
  unfold ref1V
  rw [lets_map, rest_map, dolR_map, dolB_map, dolB_map, up_dgs _ hd]
  unfold colV
  rw [col_map]
theorem name_full (r : List UInt8) (h : nameG r = true) : bkB r = false ∧ partP r = r ∧ partB r = [] ∧ partS r = [] ∧ plC r = (r, [], false) ∧ partOk r = true := by
  obtain ⟨hp, hne⟩ := name_plain r h
  have h91 : ∀ c, c ∈ r → c ≠ 91 := fun c hc => (hp c hc).1
  have h33 : ∀ c, c ∈ r → c ≠ 33 := fun c hc => (hp c hc).2.2.1
  have h58 : ∀ c, c ∈ r → c ≠ 58 := fun c hc => (hp c hc).2.2.2
  have hb : bkB r = false := by
    unfold bkB
    cases r with
    | nil => rfl
    | cons c r =>
      have := h91 c List.mem_cons_self
      simp [this]
  have hbr : bkR r = r := by unfold bkR; rw [hb]; rfl
  have hs : shC r = (r, [], false) := by unfold shC; rw [hbr]; exact cutC_none 33 r h33
  have hP : partP r = r := by unfold partP; rw [hs]; exact hbr
  refine ⟨hb, hP, by unfold partB; rw [hb]; rfl, by unfold partS; rw [hs]; rfl, by unfold plC; rw [hP]; exact cutC_none 58 r h58, ?_⟩
  unfold partOk bkOk shOk
  rw [hb, hs]; rfl
theorem up_full (r : List UInt8) (h : nameG r = true) : (fullP (r.map upC)).2 = (fullP r).2 := by
  obtain ⟨_, _, a3, a4, a5, a6⟩ := name_full r h
  obtain ⟨_, _, b3, b4, b5, b6⟩ := name_full (r.map upC) (by rw [up_name]; exact h)
  have ef : formOk (r.map upC) = formOk r := by
    unfold formOk
    rw [a5, b5, a6, b6, ref1B_map]
  unfold fullP
  rw [ef]
  by_cases ho : formOk r = true
  · rw [if_pos ho, if_pos ho]
    have hr : ref1B r = true := by
      unfold formOk at ho
      rw [a5, a6] at ho
      simpa using ho
    have e : formF (r.map upC) = formF r := by
      unfold formF
      rw [a3, a4, a5, b3, b4, b5, ref1V_map r hr]
    rw [e]
  · rw [if_neg ho, if_neg ho]
theorem nm_run (c : UInt8) (h : inNm c = true) : inRunC c = true := by
  unfold inNm at h
  unfold inRunC
  rw [Bool.or_eq_true] at h
  rcases h with h | h
  · rw [h]; rfl
  · rw [beq_iff_eq.1 h]; decide
theorem name_parts (r : List UInt8) (h : nameG r = true) : r.all inNm = true ∧ ∃ c a, r = c :: a ∧ headC c = true ∧ isDg c = false := by
  unfold nameG at h
  rw [Bool.and_eq_true, Bool.and_eq_true, Bool.and_eq_true] at h
  obtain ⟨⟨⟨h1, h2⟩, h3⟩, h4⟩ := h
  refine ⟨h4, ?_⟩
  cases r with
  | nil => simp at h1
  | cons c a =>
    refine ⟨c, a, rfl, ?_, by simpa using h3⟩
    have hd : isDg c = false := by simpa using h3
    rw [List.all_cons, Bool.and_eq_true] at h4
    have := h4.1
    unfold inNm at this
    rw [hd, Bool.or_false, Bool.or_eq_true] at this
    unfold headC
    rcases this with h | h
    · rw [h]; rfl
    · rw [beq_iff_eq.1 h]; decide
/-- A run with nothing, or a blank, behind it. -/
theorem name_of_run (a x : List UInt8) (ha : a.all inRunC = true) (hx : BlOk x) : runR (a ++ x) = a ∧ callB (a ++ x) = ((unbl x).head? == some 40) := by
  obtain ⟨p, q⟩ := tw_stop inRunC x (bl_tw inRunC (by decide) hx) a
  obtain ⟨u, v⟩ := tw_whole inRunC a ha
  refine ⟨by unfold runR; rw [p, u], ?_⟩
  unfold callB
  rw [q, v, List.nil_append]
theorem word_back (r x : List UInt8) (hr : nameG r = true) (hx : BlOk x) (hc : ((unbl x).head? == some 40) = true ∨ (fullP r).2 = 4) :
    nameTok (r.map upC ++ x) = (wordT r, (r.map upC).length, 0) ∧ ∃ d a, r.map upC = d :: a ∧ headC d = true ∧ isDg d = false := by
  have hn : nameG (r.map upC) = true := by rw [up_name]; exact hr
  obtain ⟨h1, h2⟩ := name_parts _ hn
  obtain ⟨e1, e2⟩ := name_of_run (r.map upC) x (all_mono nm_run _ h1) hx
  have ew : wordT (r.map upC) = wordT r := by
    unfold wordT
    rw [List.map_map]
    have : (upC ∘ upC) = upC := funext up_idem
    rw [this]
  refine ⟨?_, h2⟩
  unfold nameTok
  rw [e1, e2, hn, ew, up_full r hr]
  rcases hc with hc | hc
  · rw [hc, if_pos (show (true && true) = true from rfl)]
  · by_cases hq : (true && ((unbl x).head? == some 40)) = true
    · rw [if_pos hq]
    · rw [if_neg hq, hc, if_neg (by decide), if_pos ⟨rfl, rfl⟩]
/-! References. -/
theorem full_good (r : List UInt8) (h : (fullP r).2 = 0) : goodF (fullP r).1 = true ∧ (fullP r).1 = turnF (formF r) ∧ formOk r = true := by
  unfold fullP at h ⊢
  by_cases h1 : formOk r = true
  · rw [if_pos h1] at h ⊢
    by_cases h2 : (cellG (formF r).a.col (formF r).a.row && cellG (formF r).b.col (formF r).b.row) = true
    · rw [if_pos h2] at h ⊢
      by_cases h3 : goodF (turnF (formF r)) = true
      · rw [if_pos h3]; exact ⟨h3, rfl, h1⟩
      · rw [if_neg h3] at h; exact absurd h (by decide)
    · rw [if_neg h2] at h; exact absurd h (by decide)
  · rw [if_neg h1] at h; exact absurd h (by decide)
theorem dlr_run (b : Bool) : (dlr b).all inRunC = true := by cases b <;> decide
theorem refT_run (r : Rf) (h : cellG r.col r.row = true) : (refT r).all inRunC = true ∧ ∃ c a, refT r = c :: a ∧ headC c = true ∧ isDg c = false := by
  have hi := (cellG_iff _ _).1 h
  obtain ⟨c1, _, c3, _⟩ := col_spec ⟨r.col.toNat, by omega⟩
  obtain ⟨r1, _⟩ := row_spec ⟨r.row.toNat, by omega⟩
  simp only [] at c1 c3 r1
  rw [refT_good r h]
  generalize colT r.col.toNat = C at c1 c3 ⊢
  generalize dgT (r.row.toNat + 1) = D at r1 ⊢
  refine ⟨?_, ?_⟩
  · rw [List.all_append, List.all_append, List.all_append, dlr_run, dlr_run, all_mono let_run _ c1, all_mono dg_run _ r1]; rfl
  · cases hf : r.fc
    · cases C with
      | nil => simp at c3
      | cons c C =>
        rw [List.all_cons, Bool.and_eq_true] at c1
        have hd : isDg c = false := by
          cases hd : isDg c
          · rfl
          · have := dg_let c hd; rw [c1.1] at this; exact absurd this (by decide)
        exact ⟨c, C ++ dlr r.fr ++ D, rfl, by unfold headC; rw [c1.1]; rfl, hd⟩
    · exact ⟨36, C ++ dlr r.fr ++ D, rfl, by decide, by decide⟩
theorem full_run (f : Fl) (h : goodF f = true) : (fullT f).all inRunC = true ∧ ∃ c a, fullT f = c :: a ∧ headC c = true ∧ isDg c = false := by
  obtain ⟨n1, n2⟩ := good_names f h
  obtain ⟨g1, g2⟩ := good_cells f h
  obtain ⟨a1, c0, a0, a2, a3, a4⟩ := refT_run f.a g1
  have hw : (if f.wide = true then 58 :: refT f.b else []).all inRunC = true := by
    by_cases hw : f.wide = true
    · rw [if_pos hw, List.all_cons, (refT_run f.b (g2 hw)).1]; decide
    · rw [if_neg hw]; rfl
  unfold fullT
  rw [if_pos h]
  generalize (if f.wide = true then 58 :: refT f.b else []) = W at hw ⊢
  generalize refT f.a = A at a1 a2 ⊢
  subst a2
  have hA : ((c0 :: a0) ++ W).all inRunC = true := by rw [List.all_append, a1, hw]; rfl
  have hS : (sheetT f.sheet.data.toList ++ ((c0 :: a0) ++ W)).all inRunC = true ∧ ∃ c a, sheetT f.sheet.data.toList ++ ((c0 :: a0) ++ W) = c :: a ∧ headC c = true ∧ isDg c = false := by
    unfold sheetT
    by_cases hs : f.sheet.data.toList.isEmpty = true
    · rw [if_pos hs, List.nil_append]
      exact ⟨hA, c0, a0 ++ W, rfl, a3, a4⟩
    · rw [if_neg hs]
      have hn : nameG f.sheet.data.toList = true := by rcases n1 with e | e; exact absurd e hs; exact e
      obtain ⟨p1, c, a, p2, p3, p4⟩ := name_parts _ hn
      refine ⟨?_, c, a ++ [33] ++ ((c0 :: a0) ++ W), by rw [p2]; rfl, p3, p4⟩
      rw [List.all_append, List.all_append, hA, all_mono nm_run _ p1]; decide
  unfold bookT
  by_cases hb : f.book.data.toList.isEmpty = true
  · rw [if_pos hb, List.nil_append]; exact hS
  · rw [if_neg hb]
    have hn : nameG f.book.data.toList = true := by rcases n2 with e | e; exact absurd e hb; exact e.2
    obtain ⟨p1, _⟩ := name_parts _ hn
    refine ⟨?_, 91, (f.book.data.toList ++ [93]) ++ _, rfl, by decide, by decide⟩
    rw [List.cons_append, List.all_cons, List.all_append, List.all_append, hS.1, all_mono nm_run _ p1]; decide
theorem cut_false (k : UInt8) (l : List UInt8) (h : (Lib.cut l [k]).2.2 = false) : Lib.cut l [k] = (l, [], false) := by
  unfold Lib.cut at h ⊢
  by_cases hi : 0 ≤ Lib.index l [k]
  · rw [if_pos hi] at h; cases h
  · rw [if_neg hi]
/-- What shows as a name was read from one. -/
theorem name_of_ref (r : List UInt8) (h : (fullP r).2 = 0) (hn : nameG (fullT (fullP r).1) = true) : nameG r = true := by
  obtain ⟨hg, he, ho⟩ := full_good r h
  obtain ⟨hp, _⟩ := name_plain _ hn
  have hall : ∀ c, c ∈ fullT (fullP r).1 → c ≠ 36 := by
    intro c hc e
    have := (name_parts _ hn).1
    rw [List.all_eq_true] at this
    have := this c hc
    rw [e] at this
    exact absurd this (by decide)
  rw [he] at hp hall hg
  have e0 : fullT (turnF (formF r)) = bookT (turnF (formF r)).book.data.toList ++ (sheetT (turnF (formF r)).sheet.data.toList ++ (refT (turnF (formF r)).a ++ (if (turnF (formF r)).wide = true then 58 :: refT (turnF (formF r)).b else []))) := by
    unfold fullT; rw [if_pos hg]
  have hw : (turnF (formF r)).wide = (formF r).wide := by unfold turnF; split <;> rfl
  have hbk : (turnF (formF r)).book = (formF r).book := by unfold turnF; split <;> rfl
  have hsh : (turnF (formF r)).sheet = (formF r).sheet := by unfold turnF; split <;> rfl
  have w0 : (formF r).wide = false := by
    cases hc : (formF r).wide
    · rfl
    · rw [hc] at hw
      exact absurd rfl (hp 58 (by rw [e0, hw]; simp)).2.2.2
  have ht : turnF (formF r) = formF r := by unfold turnF; rw [w0]; rfl
  rw [ht] at e0 hp hall hg
  have b0 : (formF r).book.data.toList = [] := by
    cases hc : (formF r).book.data.toList with
    | nil => rfl
    | cons c a => exact absurd rfl (hp 91 (by rw [e0, hc]; simp [bookT])).1
  have s0 : (formF r).sheet.data.toList = [] := by
    cases hc : (formF r).sheet.data.toList with
    | nil => rfl
    | cons c a => exact absurd rfl (hp 33 (by rw [e0, hc]; simp [sheetT])).2.2.1
  have hcell := (good_cells _ hg).1
  have fc0 : (formF r).a.fc = false := by
    cases hc : (formF r).a.fc
    · rfl
    · exact absurd rfl (hall 36 (by rw [e0, refT_good _ hcell, hc]; simp [dlr]))
  have fr0 : (formF r).a.fr = false := by
    cases hc : (formF r).a.fr
    · rfl
    · exact absurd rfl (hall 36 (by rw [e0, refT_good _ hcell, hc]; simp [dlr]))
  have eb : (formF r).book.data.toList = partB r := by unfold formF; simp
  have es : (formF r).sheet.data.toList = partS r := by unfold formF; simp
  rw [eb] at b0
  rw [es] at s0
  have ef : (formF r).a = ref1V (plC r).1 := rfl
  have ew : (formF r).wide = (plC r).2.2 := rfl
  rw [ew] at w0
  unfold formOk partOk at ho
  rw [Bool.and_eq_true, Bool.and_eq_true, Bool.and_eq_true] at ho
  obtain ⟨⟨o1, o2⟩, o3, _⟩ := ho
  have k1 : bkB r = false := by
    cases hc : bkB r
    · rfl
    · unfold bkOk at o1
      unfold partB at b0
      rw [hc, if_pos rfl] at b0
      rw [hc, b0] at o1
      simp [nameG] at o1
  have k2 : (shC r).2.2 = false := by
    cases hc : (shC r).2.2
    · rfl
    · unfold shOk at o2
      unfold partS at s0
      rw [hc, if_pos rfl] at s0
      rw [hc, if_pos rfl, s0] at o2
      simp [nameG] at o2
  have k3 : partP r = r := by
    unfold partP bkR
    rw [k2, k1]; rfl
  have k4 : plC r = (r, [], false) := by
    unfold plC at w0 ⊢
    rw [k3] at w0 ⊢
    exact cut_false 58 r w0
  rw [k4] at o3 ef
  simp only [] at o3 ef
  rw [ef] at fc0 fr0
  have d1 : dolB r = false := fc0
  have d2 : dolB (restL r) = false := fr0
  have q1 : dolR r = r := by unfold dolR; rw [d1]; rfl
  have q2 : dolR (restL r) = restL r := by unfold dolR; rw [d2]; rfl
  unfold ref1B at o3
  rw [q2] at o3
  simp only [Bool.and_eq_true, decide_eq_true_iff] at o3
  obtain ⟨⟨⟨⟨⟨l1, l2⟩, l3⟩, l4⟩, _⟩, l6⟩ := o3
  have er : r = letsL r ++ restL r := by
    unfold letsL restL
    rw [q1]
    exact (List.takeWhile_append_dropWhile).symm
  have hlets : (letsL r).all isLet = true := by
    unfold letsL
    exact List.all_takeWhile
  have hlen : r.length = (letsL r).length + (restL r).length := by
    have := congrArg List.length er
    rw [List.length_append] at this
    exact this
  have hhd : isDg (r.headD 0) = false := by
    have e1 : r.headD 0 = (letsL r).headD 0 := by
      cases hL : letsL r with
      | nil => rw [hL] at l1; simp at l1
      | cons c a =>
        rw [hL] at er
        rw [er]; rfl
    rw [e1]
    cases hL : letsL r with
    | nil => rw [hL] at l1; simp at l1
    | cons c a =>
      rw [hL, List.all_cons, Bool.and_eq_true] at hlets
      cases hd : isDg c
      · exact hd
      · have := dg_let c hd
        rw [hlets.1] at this; exact absurd this (by decide)
  have hin : r.all inNm = true := by
    rw [er, List.all_append, all_mono (q := inNm) (fun c hc => by unfold inNm; rw [hc]; rfl) _ hlets, all_mono (q := inNm) (fun c hc => by unfold inNm; rw [hc]; simp) _ l6]; rfl
  unfold nameG
  rw [hhd, hin, decide_eq_true (show 1 ≤ r.length by omega), decide_eq_true (show r.length ≤ 16 by omega)]; rfl
theorem ref_back (r x : List UInt8) (h : (fullP r).2 = 0) (hx : BlOk x) (hc : nameG r = false ∨ ((unbl x).head? == some 40) = false) :
    nameTok (fullT (fullP r).1 ++ x) = (⟨3, emp, 0, 0, (fullP r).1, 0⟩, (fullT (fullP r).1).length, 0) ∧ ∃ d a, fullT (fullP r).1 = d :: a ∧ headC d = true ∧ isDg d = false := by
  have hg := (full_good r h).1
  obtain ⟨h1, h2⟩ := full_run _ hg
  obtain ⟨e1, e2⟩ := name_of_run _ x h1 hx
  refine ⟨?_, h2⟩
  unfold nameTok
  rw [e1, e2, parse_back _ hg]
  have : ¬ (nameG (fullT (fullP r).1) && ((unbl x).head? == some 40)) = true := by
    intro hq
    rw [Bool.and_eq_true] at hq
    rcases hc with hc | hc
    · rw [name_of_ref r h hq.1] at hc; cases hc
    · rw [hc] at hq; exact absurd hq.2 (by decide)
  rw [if_neg this, if_pos rfl]
/-! Any token. -/
theorem head_no (c : UInt8) (h : headC c = true) : c ≠ 32 ∧ c ≠ 40 := by
  constructor
  · rintro rfl; revert h; decide
  · rintro rfl; revert h; decide
theorem dig_no (c : UInt8) (h : isDg c = true) : c ≠ 32 ∧ c ≠ 40 := by
  constructor
  · rintro rfl; revert h; decide
  · rintro rfl; revert h; decide
theorem op_no (c : UInt8) (h : opC c = true) : c ≠ 32 ∧ c ≠ 40 ∧ isDg c = false ∧ headC c = false := by
  unfold opC opL at h
  simp only [List.contains_cons, List.contains_nil, Bool.or_false, Bool.or_eq_true, beq_iff_eq] at h
  rcases h with h | h | h | h | h | h | h | h | h | h <;> subst h <;> decide
theorem tok_dig (d : UInt8) (a : List UInt8) (h : isDg d = true) : tok1 (d :: a) = numTok (d :: a) := by
  unfold tok1; rw [show (d :: a).headD 0 = d from rfl, if_pos h]
theorem tok_head (d : UInt8) (a : List UInt8) (h : headC d = true) (h0 : isDg d = false) : tok1 (d :: a) = nameTok (d :: a) := by
  unfold tok1; rw [show (d :: a).headD 0 = d from rfl, h0, if_neg (by decide), if_pos h]
theorem tok_back (c : UInt8) (l x : List UInt8) (h : (tok1 (c :: l)).2.2 = 0) (hx : BlOk x)
    (hc : ((unbl x).head? == some 40) = ((unbl ((c :: l).drop (tok1 (c :: l)).2.1)).head? == some 40)) :
    ∃ d a, showL (tok1 (c :: l)).1 = d :: a ∧ d ≠ 32 ∧ (d = 40 ↔ c = 40) ∧ tok1 (d :: (a ++ x)) = ((tok1 (c :: l)).1, (d :: a).length, 0) := by
  by_cases h1 : isDg c = true
  · have et := tok_dig c l h1
    rw [et] at h ⊢
    unfold numTok at h ⊢
    have hr : ∃ r, numR (c :: l) = c :: r := by unfold numR; rw [List.takeWhile_cons, if_pos (dg_num c h1)]; exact ⟨_, rfl⟩
    obtain ⟨r, hr⟩ := hr
    rw [hr] at h ⊢
    by_cases h0 : (parseR (c :: r)).2 = 0
    · rw [if_pos h0]
      obtain ⟨g1, g2⟩ := num_facts c r h1 h0
      obtain ⟨d, a, k1, k2, k3⟩ := num_bk _ g1 g2 x hx
      refine ⟨d, a, k1, (dig_no d k2).1, ⟨fun e => absurd e (dig_no d k2).2, fun e => absurd e (dig_no c h1).2⟩, ?_⟩
      rw [tok_dig d _ k2]; exact k3
    · rw [if_neg h0] at h; exact absurd h h0
  have h1' : isDg c = false := by cases hq : isDg c; rfl; exact absurd hq h1
  by_cases h2 : headC c = true
  · have et := tok_head c l h2 h1'
    rw [et] at h hc ⊢
    have hcl : ((unbl x).head? == some 40) = callB (c :: l) ∨ (nameTok (c :: l)).2.1 ≠ (runR (c :: l)).length := by
      by_cases hq : (nameTok (c :: l)).2.1 = (runR (c :: l)).length
      · left
        rw [hc, hq]
        unfold callB runR
        rw [tw_drop]
      · exact Or.inr hq
    clear hc
    unfold nameTok at h hcl ⊢
    by_cases q1 : (nameG (runR (c :: l)) && callB (c :: l)) = true
    · rw [if_pos q1] at hcl ⊢
      rw [Bool.and_eq_true] at q1
      have hcl : ((unbl x).head? == some 40) = callB (c :: l) := by rcases hcl with e | e; exact e; exact absurd rfl e
      obtain ⟨k1, d, a, k2, k3, k4⟩ := word_back (runR (c :: l)) x q1.1 hx (Or.inl (by rw [hcl]; exact q1.2))
      refine ⟨d, a, ?_, (head_no d k3).1, ⟨fun e => absurd e (head_no d k3).2, fun e => absurd e (head_no c h2).2⟩, ?_⟩
      · rw [← k2]; rfl
      · rw [tok_head d _ k3 k4, ← List.cons_append, ← k2, k1]
    rw [if_neg q1] at h hcl ⊢
    by_cases q2 : (fullP (runR (c :: l))).2 = 0
    · rw [if_pos q2] at hcl ⊢
      have hcl : ((unbl x).head? == some 40) = callB (c :: l) := by rcases hcl with e | e; exact e; exact absurd rfl e
      obtain ⟨k1, d, a, k2, k3, k4⟩ := ref_back (runR (c :: l)) x q2 hx (by
        rw [hcl]
        cases hn : nameG (runR (c :: l))
        · exact Or.inl rfl
        · rw [hn, Bool.true_and] at q1
          exact Or.inr (by simpa using q1))
      refine ⟨d, a, ?_, (head_no d k3).1, ⟨fun e => absurd e (head_no d k3).2, fun e => absurd e (head_no c h2).2⟩, ?_⟩
      · rw [← k2]; rfl
      · rw [tok_head d _ k3 k4, ← List.cons_append, ← k2, k1]
    rw [if_neg q2] at h hcl ⊢
    by_cases q3 : (fullP (runR (c :: l))).2 = 4 ∧ nameG (runR (c :: l)) = true
    · rw [if_pos q3] at hcl ⊢
      obtain ⟨k1, d, a, k2, k3, k4⟩ := word_back (runR (c :: l)) x q3.2 hx (Or.inr q3.1)
      refine ⟨d, a, ?_, (head_no d k3).1, ⟨fun e => absurd e (head_no d k3).2, fun e => absurd e (head_no c h2).2⟩, ?_⟩
      · rw [← k2]; rfl
      · rw [tok_head d _ k3 k4, ← List.cons_append, ← k2, k1]
    · rw [if_neg q3] at h; exact absurd h q2
  have h2' : headC c = false := by cases hq : headC c; rfl; exact absurd hq h2
  by_cases h3 : opC c = true
  · have et : ∀ a, tok1 (c :: a) = opTok (c :: a) := fun a => by
      unfold tok1; rw [show (c :: a).headD 0 = c from rfl, if_neg h1, if_neg h2, if_pos h3]
    rw [et]
    obtain ⟨k1, a, k2⟩ := op_back c l x hx
    refine ⟨c, a, ?_, (op_no c h3).1, Iff.rfl, ?_⟩
    · rw [← k2]; unfold opTok showL; simp
    · rw [et, ← List.cons_append, ← k2, k1]
  by_cases h4 : c = 34
  · subst h4
    have et : ∀ a, tok1 (34 :: a) = textTok (34 :: a) := fun a => by
      unfold tok1; rw [show (34 :: a).headD 0 = 34 from rfl, if_neg (by decide), if_neg (by decide), if_neg (by decide), if_pos rfl]
    rw [et] at h ⊢
    unfold textTok at h
    rw [List.tail_cons] at h
    cases hq : qIn l with
    | none => rw [hq] at h; exact absurd h (by decide)
    | some p =>
      rw [hq] at h
      simp only [] at h
      by_cases hl : 255 < p.1.length
      · rw [if_pos hl] at h; exact absurd h (by decide)
      · have ev : textTok (34 :: l) = (⟨1, ⟨p.1.toArray⟩, 0, 0, zeroF, 0⟩, p.2 + 1, 0) := by
          unfold textTok
          rw [List.tail_cons, hq]
          simp only []
          rw [if_neg hl]
        rw [ev]
        have tb := text_back ⟨p.1.toArray⟩ (by simpa using hl) x hx
        refine ⟨34, dblL p.1 ++ [34], rfl, by decide, Iff.rfl, ?_⟩
        rw [et]; exact tb
  by_cases h5 : c = 35
  · subst h5
    have et : ∀ a, tok1 (35 :: a) = failTok (35 :: a) := fun a => by
      unfold tok1; rw [show (35 :: a).headD 0 = 35 from rfl, if_neg (by decide), if_neg (by decide), if_neg (by decide), if_neg (by decide), if_pos rfl]
    rw [et] at h ⊢
    unfold failTok at h
    cases hq : failsL.find? (fun f => (sigL f).isPrefixOf (35 :: l)) with
    | none => rw [hq] at h; exact absurd h (by decide)
    | some f =>
      have ev : failTok (35 :: l) = (⟨2, emp, 0, f, zeroF, 0⟩, (sigL f).length, 0) := by unfold failTok; rw [hq]
      rw [ev]
      obtain ⟨hm, _⟩ := find_mem hq
      have hh := sig_head f hm
      have fb := fail_back f hm x hx
      have es : showL ⟨2, emp, 0, f, zeroF, 0⟩ = sigL f := rfl
      rw [es]
      generalize sigL f = S at hh fb ⊢
      cases S with
      | nil => cases hh
      | cons d a =>
        rw [List.head?_cons] at hh
        cases hh
        refine ⟨35, a, rfl, by decide, Iff.rfl, ?_⟩
        rw [et]; exact fb
  have es : ∀ (k : UInt8) (a : List UInt8), isDg k = false → headC k = false → opC k = false → k ≠ 34 → k ≠ 35 → tok1 (k :: a) = (if k = 40 then sgnT 6 else if k = 41 then sgnT 7 else if k = 44 then sgnT 8 else badT 4) := by
    intro k a b1 b2 b3 b4 b5
    unfold tok1
    rw [show (k :: a).headD 0 = k from rfl, b1, b2, b3, if_neg (by decide), if_neg (by decide), if_neg (by decide), if_neg b4, if_neg b5]
  have h3' : opC c = false := by cases hq : opC c; rfl; exact absurd hq h3
  have e0 := es c l h1' h2' h3' h4 h5
  have e1 := es c x h1' h2' h3' h4 h5
  rw [e0] at h ⊢
  by_cases h6 : c = 40
  · subst h6
    refine ⟨40, [], rfl, by decide, Iff.rfl, ?_⟩
    rw [List.nil_append, e1]; rfl
  by_cases h7 : c = 41
  · subst h7
    refine ⟨41, [], rfl, by decide, Iff.rfl, ?_⟩
    rw [List.nil_append, e1]; rfl
  by_cases h8 : c = 44
  · subst h8
    refine ⟨44, [], rfl, by decide, Iff.rfl, ?_⟩
    rw [List.nil_append, e1]; rfl
  rw [if_neg h6, if_neg h7, if_neg h8] at h
  exact absurd h (by decide)
/-! A formula. -/
/-- But for its place. -/
def bare (t : Tk) : Tk := t.put 0
theorem bare_put (t : Tk) (o : Int) : bare (t.put o) = bare t := rfl
theorem lex_back (o : Nat) (l : List UInt8) : (lexL o l).2.2 = 0 → (∀ o', ∃ ts, lexL o' (joinL (lexL o l).1) = (ts, 0, 0) ∧ ts.map bare = (lexL o l).1.map bare) ∧
    (((joinL (lexL o l).1).head? == some 40) = ((unbl l).head? == some 40)) ∧ unbl (joinL (lexL o l).1) = joinL (lexL o l).1 := by
  refine lex_all (M := fun o l => (lexL o l).2.2 = 0 → (∀ o', ∃ ts, lexL o' (joinL (lexL o l).1) = (ts, 0, 0) ∧ ts.map bare = (lexL o l).1.map bare) ∧
    (((joinL (lexL o l).1).head? == some 40) = ((unbl l).head? == some 40)) ∧ unbl (joinL (lexL o l).1) = joinL (lexL o l).1) ?_ ?_ ?_ ?_ o l
  · intro o _
    rw [lexL_nil]
    exact ⟨fun o' => ⟨[], by rw [join_none, lexL_nil], rfl⟩, rfl, rfl⟩
  · intro o l ih h0
    rw [lexL_blank] at h0 ⊢
    rw [show unbl (32 :: l) = unbl l from rfl]
    exact ih h0
  · intro o c l hc he h0; rw [lexL_bad o c l hc he] at h0; exact absurd h0 he
  · intro o c l hc he ih h0
    have eu : unbl (c :: l) = c :: l := by
      unfold unbl
      rw [List.dropWhile_cons, if_neg (by simpa [isBl] using hc)]
    have el := lexL_ok o c l hc he
    rw [el] at h0 ⊢
    have e0 : (lexL (o + (tok1 (c :: l)).2.1) ((c :: l).drop (tok1 (c :: l)).2.1)).2.2 = 0 := by
      unfold preT at h0
      by_cases hz : (lexL (o + (tok1 (c :: l)).2.1) ((c :: l).drop (tok1 (c :: l)).2.1)).2.2 = 0
      · exact hz
      · rw [if_neg hz] at h0; exact absurd h0 hz
    obtain ⟨i1, i2, i3⟩ := ih e0
    clear ih h0 el
    generalize lexL (o + (tok1 (c :: l)).2.1) ((c :: l).drop (tok1 (c :: l)).2.1) = y at e0 i1 i2 i3 ⊢
    obtain ⟨us, p, e⟩ := y
    simp only [] at e0 i1 i2 i3
    subst e0
    rw [pre_lex, List.singleton_append]
    simp only []
    have hX : ∃ x, BlOk x ∧ joinL ((tok1 (c :: l)).1.put o :: us) = showL (tok1 (c :: l)).1 ++ x ∧ unbl x = joinL us ∧ (∀ o', ∃ ts, lexL o' x = (ts, 0, 0) ∧ ts.map bare = us.map bare) := by
      cases us with
      | nil => exact ⟨[], Or.inl rfl, by rw [join_one, List.append_nil]; rfl, rfl, fun o' => ⟨[], lexL_nil o', rfl⟩⟩
      | cons u us =>
        refine ⟨32 :: joinL (u :: us), Or.inr ⟨_, rfl⟩, by rw [join_more]; rfl, by rw [show unbl (32 :: joinL (u :: us)) = unbl (joinL (u :: us)) from rfl, i3], fun o' => ?_⟩
        rw [lexL_blank]
        exact i1 (o' + 1)
    obtain ⟨x, x1, x2, x3, x4⟩ := hX
    obtain ⟨d, a, k1, k2, k3, k4⟩ := tok_back c l x he x1 (by rw [x3]; exact i2)
    rw [x2, k1]
    refine ⟨fun o' => ?_, ?_, ?_⟩
    · obtain ⟨ts, t1, t2⟩ := x4 (o' + (d :: a).length)
      have ko := lexL_ok o' d (a ++ x) k2 (by rw [k4])
      rw [k4] at ko
      have ed : (d :: (a ++ x)).drop (d :: a).length = x := by
        rw [← List.cons_append, List.drop_left]
      rw [show d :: a ++ x = d :: (a ++ x) from rfl, ko, ed, t1, pre_lex]
      refine ⟨_, rfl, ?_⟩
      rw [List.singleton_append, List.map_cons, List.map_cons, t2, bare_put, bare_put]
    · rw [eu]
      show (some d == some 40) = (some c == some 40)
      by_cases hd : d = 40
      · rw [hd, k3.1 hd]
      · have hc4 : c ≠ 40 := fun e => hd (k3.2 e)
        have q1 : (some d == some 40) = false := by simpa using hd
        have q2 : (some c == some 40) = false := by simpa using hc4
        rw [q1, q2]
    · show unbl (d :: (a ++ x)) = d :: (a ++ x)
      unfold unbl
      rw [List.dropWhile_cons, if_neg (by simpa [isBl] using k2)]
end Go.Proofs.YtgoaefpkhjbkjaaGreatDoor
