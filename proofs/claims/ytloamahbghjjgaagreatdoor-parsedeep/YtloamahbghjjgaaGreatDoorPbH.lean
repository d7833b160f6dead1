/- The walk of signed. -/
import Derived.Test.YtloamahbghjjgaaGreatDoorPbG
namespace Go.Proofs.YtloamahbghjjgaaGreatDoor
open Go.RowKit
variable {X : Nat → Prop}

/-- The reader's depth is written. -/
theorem RdAt.deep {R : Nat} {w : World} {tv : Value} {l : List Tk} {nds : List Nd} {d dp m : Nat} (h : RdAt X R w tv l nds d dp m) (d' : Nat) : RdAt X R (w.setCell ⟨R, 2, none⟩ (.int .i64 (d' : Int))) tv l nds d' dp m :=
  h.put 2 (.int .i64 (d' : Int)) tv l d' dp m (fun a cap _ h1 h2 h3 => ⟨a, cap, rfl, h2, h1, h3⟩) h.row
theorem RdAt.deepest {R : Nat} {w : World} {tv : Value} {l : List Tk} {nds : List Nd} {d dp m : Nat} (h : RdAt X R w tv l nds d dp m) (x : Nat) : RdAt X R (w.setCell ⟨R, 3, none⟩ (.int .i64 (x : Int))) tv l nds d x m :=
  h.put 3 (.int .i64 (x : Int)) tv l d x m (fun a cap _ h1 h2 h3 => ⟨a, cap, rfl, h2, h1, h3⟩) h.row
theorem RdAt.mostly {R : Nat} {w : World} {tv : Value} {l : List Tk} {nds : List Nd} {d dp m : Nat} (h : RdAt X R w tv l nds d dp m) (x : Nat) : RdAt X R (w.setCell ⟨R, 4, none⟩ (.int .i64 (x : Int))) tv l nds d dp x :=
  h.put 4 (.int .i64 (x : Int)) tv l d dp x (fun a cap _ h1 h2 h3 => ⟨a, cap, rfl, h2, h1, h3⟩) h.row
theorem RdAt.cell2 {R : Nat} {w : World} {tv : Value} {l : List Tk} {nds : List Nd} {d dp m : Nat} (h : RdAt X R w tv l nds d dp m) : w.cell? ⟨R, 2, none⟩ = some (.int .i64 (d : Int)) ∧ w.frozen? ⟨R, 2, none⟩ = false := by
  obtain ⟨a, cap, h1, _⟩ := h.cells
  exact ⟨(cells5 h1).2.2.1, cells_f h1 2⟩
theorem RdAt.cell3 {R : Nat} {w : World} {tv : Value} {l : List Tk} {nds : List Nd} {d dp m : Nat} (h : RdAt X R w tv l nds d dp m) : w.cell? ⟨R, 3, none⟩ = some (.int .i64 (dp : Int)) ∧ w.frozen? ⟨R, 3, none⟩ = false := by
  obtain ⟨a, cap, h1, _⟩ := h.cells
  exact ⟨(cells5 h1).2.2.2.1, cells_f h1 3⟩
theorem RdAt.cell4 {R : Nat} {w : World} {tv : Value} {l : List Tk} {nds : List Nd} {d dp m : Nat} (h : RdAt X R w tv l nds d dp m) : w.cell? ⟨R, 4, none⟩ = some (.int .i64 (m : Int)) ∧ w.frozen? ⟨R, 4, none⟩ = false := by
  obtain ⟨a, cap, h1, _⟩ := h.cells
  exact ⟨(cells5 h1).2.2.2.2, cells_f h1 4⟩
theorem rd_signed_no {l : List Tk} (h : signB (headT l) = false) : rd .signed l = rd .pcted l := by
  cases l with
  | nil => rw [rd_pcted]; rfl
  | cons t l =>
    have h : signB t = false := h
    rw [rd_signed, if_neg (by rw [h]; simp)]
set_option maxRecDepth 100000 in
set_option maxHeartbeats 4000000 in
theorem signed_no (l : List Tk) (hs : signB (headT l) = false) (h : RdOk 190 [] (rd .pcted l) l) : RdOk 152 [] (rd .signed l) l := by
  intro X R w tv nds d dp m hr hf
  rw [rd_signed_no hs]
  generalize rd .pcted l = O at h ⊢
  have HOP := hide (rop_val R w tv l _ d _ _ hr)
  have HH := hide h
  have HR := hide hr
  have HF := hide hf
  unfold signB at hs
  rw [Bool.or_eq_false_iff] at hs
  have e43 := (opS_eq (headT l) 43).trans hs.1
  have e45 := (opS_eq (headT l) 45).trans hs.2
  clear h hr hf hs
  go_enter Tryz.func152, Tryz.ntmps152
  go_wp2_with fail
  refine (unhide HOP).mono ?_
  rintro e wa ⟨rfl, ba⟩
  have HC := hide (unhide HH X R wa tv nds d dp m ((unhide HR).nx ba) (unhide HF))
  have FA : Hid (Frm R w wa) := hide (Frm.of ba)
  clear ba HOP HH HR
  simp only [List.toArray] at HC
  unfold RdPost at HC ⊢
  cases O with
  | none =>
    go_wp2_with fail
    refine (unhide HC).mono ?_
    rintro e w1 ⟨rfl, hf⟩
    have FB := hide ((unhide FA).trans hf)
    clear hf
    go_wp2
    exact ⟨rfl, rfl, unhide FB⟩
  | some p =>
    obtain ⟨s, r⟩ := p
    go_wp2_with fail
    refine (unhide HC).mono ?_
    rintro e w1 ⟨rfl, hf, hx⟩
    have FB := hide ((unhide FA).trans hf)
    have HX := hide hx
    clear hx hf
    go_wp2
    exact bodyPost_ret (v := .int .i64 ((nds.length + s.size - 1 : Nat) : Int)) (results_t1 rfl _ _ _ rfl) rfl ⟨rfl, unhide FB, unhide HX⟩
def signO (t : Tk) (o : Rs) : Rs := match o with | none => none | some p => some (.sign t p.1, p.2)
set_option maxRecDepth 100000 in
set_option maxHeartbeats 4000000 in
theorem signed_yes (t : Tk) (l : List Tk) (hs : signB t = true) (h : RdOk 152 [] (rd .signed l) l) : RdOk 152 [] (rd .signed (t :: l)) (t :: l) := by
  intro X R w tv nds d dp m hr hf
  have hsg : rd .signed (t :: l) = signO t (rd .signed l) := by
    rw [rd_signed, if_pos hs]; rfl
  rw [hsg]
  clear hsg
  have HOP := hide (rop_val R w tv (t :: l) _ d _ _ hr)
  rw [show headT (t :: l) = t from rfl] at HOP
  have HH := hide h
  have HR := hide hr
  have HF := hide hf
  have kt := (sign_kind hs).1
  have hdl : d + l.length + 1 ≤ 3000 := by have := hf.deep; rw [List.length_cons] at this; omega
  have e43 := opS_eq t 43
  have e45 := opS_eq t 45
  clear h hr hf
  obtain ⟨O, hO⟩ : ∃ O, rd .signed l = O := ⟨_, rfl⟩
  rw [hO] at HH ⊢
  have HQ := hide hO
  clear hO
  have fin : ∀ (x y : Bool), (opL5 t == [43]) = x → (opL5 t == [45]) = y → x = !y → minusB t = y →
      Calls Tryz.prog 152 (Value.pointer (some ⟨R, 0, none⟩) :: []).toArray w (RdPost X R nds d dp m w (signO t O)) := by
    intro x y ex ey hxy hmy
    rw [ex] at e43
    rw [ey] at e45
    subst hxy
    have HM := hide hmy
    clear ex ey hs hmy
    simp only [List.toArray]
    unfold signO
    cases O with
    | none =>
      cases y
      all_goals
        simp only [Bool.not_true, Bool.not_false] at e43
        go_enter Tryz.func152, Tryz.ntmps152
        go_wp2_with fail
        refine (unhide HOP).mono ?_
        rintro e wa ⟨rfl, ba⟩
        have HRB := hide ((unhide HR).nx ba)
        have FA : Hid (Frm R w wa) := hide (Frm.of ba)
        clear ba HOP HR
        have HTK := hide (take_ok R wa tv t l _ d _ _ (unhide HRB) (by omega))
        rw [kt] at HTK
        go_wp2_with fail
        refine (unhide HTK).mono ?_
        rintro e wc ⟨rfl, rc, fc⟩
        have HRC := hide rc
        replace FA := hide ((unhide FA).trans fc)
        obtain ⟨k2, f2⟩ := rc.cell2
        clear rc fc HTK HRB
        have HC := hide (unhide HH X R _ tv nds (d + 1) dp m ((unhide HRC).deep (d + 1)) (by
          have hf := fit_tail (unhide HF)
          exact ⟨hf.text, hf.nodes, by omega, hf.dp, hf.most⟩))
        replace FA := hide ((unhide FA).set 2 (.int .i64 ((d + 1 : Nat) : Int)))
        clear HH HRC
        simp only [List.toArray, Int.natCast_add, Int.cast_ofNat_Int] at HC FA
        unfold RdPost at HC
        go_wp2_with fail
        refine (unhide HC).mono ?_
        rintro e w1 ⟨rfl, hf⟩
        have FB := hide ((unhide FA).trans hf)
        clear hf
        go_wp2
        exact ⟨rfl, rfl, unhide FB⟩
    | some p =>
      obtain ⟨s, r⟩ := p
      cases y
      all_goals
        simp only [Bool.not_true, Bool.not_false] at e43
        go_enter Tryz.func152, Tryz.ntmps152
        go_wp2_with fail
        refine (unhide HOP).mono ?_
        rintro e wa ⟨rfl, ba⟩
        have HRB := hide ((unhide HR).nx ba)
        have FA : Hid (Frm R w wa) := hide (Frm.of ba)
        clear ba HOP HR
        have HTK := hide (take_ok R wa tv t l _ d _ _ (unhide HRB) (by omega))
        rw [kt] at HTK
        go_wp2_with fail
        refine (unhide HTK).mono ?_
        rintro e wc ⟨rfl, rc, fc⟩
        have HRC := hide rc
        replace FA := hide ((unhide FA).trans fc)
        obtain ⟨k2, f2⟩ := rc.cell2
        clear rc fc HTK HRB
        have HC := hide (unhide HH X R _ tv nds (d + 1) dp m ((unhide HRC).deep (d + 1)) (by
          have hf := fit_tail (unhide HF)
          exact ⟨hf.text, hf.nodes, by omega, hf.dp, hf.most⟩))
        replace FA := hide ((unhide FA).set 2 (.int .i64 ((d + 1 : Nat) : Int)))
        clear HH HRC
        simp only [List.toArray, Int.natCast_add, Int.cast_ofNat_Int] at HC FA
        unfold RdPost at HC
        go_wp2_with fail
        refine (unhide HC).mono ?_
        rintro e w1 ⟨rfl, hf, tv1, r1⟩
        have HR1 := hide r1
        replace FA := hide ((unhide FA).trans hf)
        obtain ⟨k3, f3⟩ := r1.cell2
        simp only [Int.natCast_add, Int.cast_ofNat_Int] at k3
        clear hf r1 HC k2 f2
        have HR2 := hide ((unhide HR1).deep d)
        replace FA := hide ((unhide FA).set 2 (.int .i64 (d : Int)))
        clear HR1
      · go_wp2
        refine bodyPost_ret (v := .int .i64 ((nds.length + s.size - 1 : Nat) : Int)) (results_t1 rfl _ _ _ rfl) rfl ?_
        unfold RdPost
        have hz : (Syn.sign t s).size = s.size := by simp only [Syn.size]; rw [unhide HM]; rfl
        have he : (Syn.sign t s).emit nds.length = s.emit nds.length := by simp only [Syn.emit]; rw [unhide HM]; rfl
        refine ⟨by rw [hz], unhide FA, tv1, ?_⟩
        rw [he]
        exact (unhide HR2).cast rfl (by simp only [Syn.nest]; omega) rfl
      · obtain ⟨pa, hpa⟩ : ∃ pa : Nat, nds.length + s.size - 1 = pa := ⟨_, rfl⟩
        have PA := hide hpa
        rw [hpa]
        clear hpa
        have hss : (w1.setCell ⟨R, 2, none⟩ (.int .i64 (d : Int))).heap.size = w1.heap.size := by simp [World.setCell]
        have hRd : R < w1.heap.size := by rw [← hss]; exact (unhide HR2).lt
        have hcnt : (nds ++ s.emit nds.length).length ≤ 10000 := by
          have h1 := (unhide HF).nodes
          have h2 := (size_toks s).1
          have h3 := congrArg List.length (rd_toks (unhide HQ))
          simp only [Md.left, List.nil_append, List.length_append, List.length_cons, emit_len] at h1 h3 ⊢
          omega
        have HK := kidsX_one (unhide HR2) (pa : Int)
        rw [hss] at HK
        have HP := hide (put_val R _ tv1 r _ d _ _ (negN pa) (.slice (some ⟨w1.heap.size, 0, none⟩) 1 1) ((unhide HR2).nx (below_al _ (.cells #[.int .i64 (pa : Int)] 3))) HK hcnt)
        unfold negN Nd.cells zVl zeroF zeroR at HP
        simp only [] at HP
        clear HK hcnt
        go_wp2_with fail
        refine (unhide HP).mono ?_
        rintro e we ⟨rfl, tve, re, fe⟩
        have HRE := hide re
        replace FA := hide (((unhide FA).trans (Frm.of (below_al _ (.cells #[.int .i64 (pa : Int)] 3)))).trans fe)
        clear re fe HP HR2
        have hz : (Syn.sign t s).size = s.size + 1 := by simp only [Syn.size]; rw [unhide HM]; rfl
        have he : (Syn.sign t s).emit nds.length = s.emit nds.length ++ [negN pa] := by simp only [Syn.emit]; rw [unhide HM, unhide PA]; rfl
        have HZ := hide hz
        have HE := hide he
        clear hz he
        go_wp2
        refine bodyPost_ret (v := .int .i64 (((nds ++ s.emit nds.length).length : Nat) : Int)) (results_t1 rfl _ _ _ ?_) rfl ?_
        · simp
        unfold RdPost
        refine ⟨?_, unhide FA, tve, ?_⟩
        · rw [unhide HZ, List.length_append, emit_len]; rfl
        · rw [unhide HE]
          exact (unhide HRE).cast (by rw [List.append_assoc]; rfl) (by simp only [Syn.nest]; omega) rfl
  have hx : (opL5 t == [43]) = !(opL5 t == [45]) := by
    unfold signB at hs
    cases h4 : (opL5 t == [45]) with
    | true =>
      have : opL5 t = [45] := by simpa using h4
      rw [this]; decide
    | false => rw [h4] at hs; simpa using hs
  exact fin _ _ rfl rfl hx rfl
end Go.Proofs.YtloamahbghjjgaaGreatDoor
