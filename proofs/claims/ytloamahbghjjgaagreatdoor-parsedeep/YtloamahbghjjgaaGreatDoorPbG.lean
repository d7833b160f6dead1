/- The walks of percented and signed. -/
import Derived.Test.YtloamahbghjjgaaGreatDoorPbF
namespace Go.Proofs.YtloamahbghjjgaaGreatDoor
open Go.RowKit
variable {X : Nat → Prop}

theorem opS_eq (T : Tk) (c : UInt8) : ((opS T).toList == [c]) = (opL5 T == [c]) := by rw [ByteArray.toList_eq, opS_list]
structure PcAt (X : Nat → Prop) (l : List Tk) (O : Rs) (R : Nat) (nds : List Nd) (d dp m : Nat) (w0 : World) (a : Syn) (li : List Tk) (w : World) : Prop where
  all : O = rd (.pcts a) li
  toks : l = a.toks ++ li
  wf : a.wf 7
  frm : Frm R w0 w
  at_ : ∃ tv, RdAt X R w tv li (nds ++ a.emit nds.length) d (max dp (d + a.nest)) (max m a.most)
theorem PcAt.step {l : List Tk} {O : Rs} {R : Nat} {nds : List Nd} {d dp m : Nat} {w0 w w' : World} {a : Syn} {t : Tk} {l2 : List Tk} {tv : Value} (h : PcAt X l O R nds d dp m w0 a (t :: l2) w) (ht : pctB t = true) (hf : Frm R w w')
    (hr : RdAt X R w' tv l2 ((nds ++ a.emit nds.length) ++ [pctN (nds.length + a.size - 1)]) d (max dp (d + a.nest)) (max m a.most)) : PcAt X l O R nds d dp m w0 (.pct a t) l2 w' := by
  refine ⟨?_, ?_, ⟨Nat.le_refl _, ht, h.wf⟩, h.frm.trans hf, tv, hr.cast ?_ rfl rfl⟩
  · rw [h.all, rd_pcts, if_pos ht]
  · rw [h.toks]; simp [Syn.toks]
  · simp [Syn.emit]
theorem PcAt.stop {l : List Tk} {O : Rs} {R : Nat} {nds : List Nd} {d dp m : Nat} {w0 w : World} {a : Syn} {li : List Tk} (h : PcAt X l O R nds d dp m w0 a li w) (hl : pctB (headT li) = false) : O = some (a, li) := by
  rw [h.all]
  cases li with
  | nil => rfl
  | cons t l2 =>
    have hl : pctB t = false := hl
    rw [rd_pcts, if_neg (by rw [hl]; simp)]
theorem PcAt.fit {l : List Tk} {O : Rs} {R : Nat} {nds : List Nd} {d dp m : Nat} {w0 w : World} {a : Syn} {li : List Tk} (h : PcAt X l O R nds d dp m w0 a li w) (hf : Fit l nds d dp m) : Fit li (nds ++ a.emit nds.length) d (max dp (d + a.nest)) (max m a.most) := fit_next hf h.toks h.wf
set_option maxRecDepth 100000 in
set_option maxHeartbeats 4000000 in
theorem percented_ok (l : List Tk) (h : RdOk 220 [] (rd .operand l) l) : RdOk 190 [] (rd .pcted l) l := by
  intro X R w tv nds d dp m hr hf
  have HC := hide (h X R w tv nds d dp m hr hf)
  have HF := hide hf
  have hRlt := hr.lt
  clear h hr hf
  obtain ⟨O, hO⟩ : ∃ O, rd .pcted l = O := ⟨_, rfl⟩
  have HO := hide hO
  rw [hO]
  clear hO
  simp only [List.toArray] at HC
  unfold RdPost at HC
  cases ho : rd .operand l with
  | none =>
    have e : O = none := by rw [← unhide HO, rd_pcted, ho]
    rw [ho] at HC
    subst e
    clear ho
    go_enter Tryz.func190, Tryz.ntmps190
    go_wp2_with fail
    refine (unhide HC).mono ?_
    rintro e w1 ⟨rfl, hf⟩
    go_wp2
    exact ⟨rfl, rfl, hf⟩
  | some p =>
    obtain ⟨a, li⟩ := p
    rw [ho] at HC
    simp only [] at HC
    have H0 : Hid (O = rd (.pcts a) li ∧ l = a.toks ++ li ∧ a.wf 7) := hide (by
      refine ⟨by rw [← unhide HO, rd_pcted, ho], rd_toks ho, ?_⟩
      have := rd_wf ho trivial
      exact wf_down this (by simp [Md.lev]) (by simp [Md.lev]))
    clear ho
    go_enter Tryz.func190, Tryz.ntmps190
    go_wp2_with fail
    refine (unhide HC).mono ?_
    rintro e w1 ⟨rfl, hf1, hx1⟩
    have A0 : Hid (PcAt X l O R nds d dp m w a li w1) := hide ⟨(unhide H0).1, (unhide H0).2.1, (unhide H0).2.2, hf1, hx1⟩
    clear hf1 hx1 H0 HC
    go_wp2_with fail
    go_loopw [3] (fun v wr => ∃ (a : Syn) (li : List Tk), v = .int .i64 ((nds.length + a.size - 1 : Nat) : Int) ∧ Hid (PcAt X l O R nds d dp m w a li wr)) (fun _ wr => restLen (wr.cell? ⟨R, 0, none⟩))
    case atStart => exact ⟨a, li, rfl, A0⟩
    case round =>
      clear A0
      obtain ⟨a, li, rfl, HA⟩ := hrel
      obtain ⟨tva, hRA⟩ := (unhide HA).at_
      have HRA := hide hRA
      have HOP := hide (rop_val R wr tva li _ d _ _ hRA)
      have HFI := hide ((unhide HA).fit (unhide HF))
      have hlen := rest_len hRA
      have HLE := hide hlen
      clear hRA hlen
      have hpc := opS_eq (headT li) 37
      cases hl : pctB (headT li) with
      | true =>
        rw [show (opL5 (headT li) == [37]) = true from hl] at hpc
        cases li with
        | nil => exact absurd hl (by rw [show headT [] = noT from rfl]; decide)
        | cons t l2 =>
          have hl : pctB t = true := hl
          have kt := (pct_line hl).2.2
          have HL := hide hl
          rw [show headT (t :: l2) = t from rfl] at HOP hpc
          clear hl
          go_wp2_with fail
          refine (unhide HOP).mono ?_
          rintro e wa ⟨rfl, ba⟩
          have HRB := hide ((unhide HRA).nx ba)
          have FA : Hid (Frm R wr wa) := hide (Frm.of ba)
          clear ba HOP HRA
          have HTK := hide (take_ok R wa tva t l2 _ d _ _ (unhide HRB) (by have := (unhide HFI).nodes; simp only [List.length_cons] at this; omega))
          rw [kt] at HTK
          go_wp2_with fail
          refine (unhide HTK).mono ?_
          rintro e wc ⟨rfl, rc, fc⟩
          have HRC := hide rc
          replace FA := hide ((unhide FA).trans fc)
          clear rc fc HTK HRB
          obtain ⟨pa, hpa⟩ : ∃ pa : Nat, nds.length + a.size - 1 = pa := ⟨_, rfl⟩
          have PA := hide hpa
          rw [hpa]
          clear hpa
          have hRc := (unhide HRC).lt
          have HP := hide (put_val R _ tva l2 _ d _ _ (pctN pa) (.slice (some ⟨wc.heap.size, 0, none⟩) 1 1) ((unhide HRC).nx (below_al wc (.cells #[.int .i64 (pa : Int)] 3))) (kidsX_one (unhide HRC) (pa : Int)) (by
            have := (unhide HFI).nodes
            simp only [List.length_append, List.length_cons, emit_len] at this ⊢
            omega))
          unfold pctN Nd.cells zVl zeroF zeroR at HP
          simp only [] at HP
          go_wp2_with fail
          refine (unhide HP).mono ?_
          rintro e we ⟨rfl, tve, re, fe⟩
          have HRE := hide re
          replace FA := hide (((unhide FA).trans (Frm.of (below_al wc (.cells #[.int .i64 (pa : Int)] 3)))).trans fe)
          clear re fe HP HRC
          have HN : Hid (PcAt X l O R nds d dp m w (.pct a t) l2 we) := hide (by
            refine (unhide HA).step (unhide HL) (unhide FA) (tv := tve) ?_
            rw [unhide PA]
            exact unhide HRE)
          go_wp2
          go_roundw
          case rel =>
            refine ⟨.pct a t, l2, ?_, HN⟩
            simp only [emit_len, Syn.size]
            congr 1
          case measure =>
            obtain ⟨tvx, hx⟩ := (unhide HN).at_
            rw [rest_len hx, unhide HLE]
            simp
      | false =>
        rw [show (opL5 (headT li) == [37]) = false from hl] at hpc
        have hO := (unhide HA).stop hl
        subst hO
        clear hl
        go_wp2_with fail
        refine (unhide HOP).mono ?_
        rintro e wa ⟨rfl, ba⟩
        have HRB := hide ((unhide HRA).nx ba)
        have FA : Hid (Frm R wr wa) := hide (Frm.of ba)
        clear ba HOP HRA
        go_wp2
        exact bodyPost_ret (v := .int .i64 ((nds.length + a.size - 1 : Nat) : Int)) (results_t1 rfl _ _ _ rfl) rfl ⟨rfl, (unhide HA).frm.trans (unhide FA), _, unhide HRB⟩
end Go.Proofs.YtloamahbghjjgaaGreatDoor
