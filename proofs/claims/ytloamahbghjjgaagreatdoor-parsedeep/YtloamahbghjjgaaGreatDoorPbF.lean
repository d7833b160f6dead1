/- The walk of chain. -/
import Derived.Test.YtloamahbghjjgaaGreatDoorPbE
namespace Go.Proofs.YtloamahbghjjgaaGreatDoor
open Go.RowKit
variable {X : Nat → Prop}

def restLen : Option Value → Nat
  | some (.slice _ n _) => n
  | _ => 0
theorem rest_len {R : Nat} {w : World} {tv : Value} {l : List Tk} {nds : List Nd} {d dp m : Nat} (h : RdAt X R w tv l nds d dp m) : restLen (w.cell? ⟨R, 0, none⟩) = l.length := by
  obtain ⟨a, cap, h1, _⟩ := h.cells
  rw [(cells5 h1).1]; rfl
theorem RdAt.cast {R : Nat} {w : World} {tv : Value} {l : List Tk} {nds nds' : List Nd} {d dp m dp' m' : Nat} (h : RdAt X R w tv l nds d dp m) (e1 : nds = nds') (e2 : dp = dp') (e3 : m = m') : RdAt X R w tv l nds' d dp' m' := by
  subst e1 e2 e3; exact h
theorem bind_line (s : ByteArray) (T : Tk) (h : s = opS T) (w : World) : Calls Tryz.prog 119 #[.string s] w fun e w' => e = .returned (.int .i64 (lineT T : Nat)) ∧ w' = w := by
  have := binding_val s w
  rw [h, opS_list] at this
  rw [h]; exact this
theorem kids_two (w : World) (B : Nat) (x y : Int) (hB : B ≤ w.heap.size) : KidsAt (w.alloc (.cells #[.int .i64 x, .int .i64 y] 3)) B (.slice (some ⟨w.heap.size, 0, none⟩) 2 2) [x, y] :=
  World.ownsRow_lit w #[.int .i64 x, .int .i64 y] 2 hB (by unfold maxLen; omega) rfl
theorem kids_one (w : World) (B : Nat) (x : Int) (hB : B ≤ w.heap.size) : KidsAt (w.alloc (.cells #[.int .i64 x] 3)) B (.slice (some ⟨w.heap.size, 0, none⟩) 1 1) [x] :=
  World.ownsRow_lit w #[.int .i64 x] 1 hB (by unfold maxLen; omega) rfl
/-- How far chain has come: what it has read, and what is left. -/
structure ChAt (X : Nat → Prop) (k : Nat) (l : List Tk) (O : Rs) (R : Nat) (nds : List Nd) (d dp m : Nat) (w0 : World) (a : Syn) (li : List Tk) (w : World) : Prop where
  all : O = rd (.tail k a) li
  toks : l = a.toks ++ li
  wf : a.wf k
  frm : Frm R w0 w
  at_ : ∃ tv, RdAt X R w tv li (nds ++ a.emit nds.length) d (max dp (d + a.nest)) (max m a.most)
theorem ChAt.step {k : Nat} {l : List Tk} {O : Rs} {R : Nat} {nds : List Nd} {d dp m : Nat} {w0 w w' : World} {a b : Syn} {t : Tk} {l2 l3 : List Tk} {tv : Value} (h : ChAt X k l O R nds d dp m w0 a (t :: l2) w) (ht : lineT t = k) (h1 : 1 ≤ k) (h5 : k ≤ 5)
    (hb : rd (.chain (k + 1)) l2 = some (b, l3)) (hf : Frm R w w')
    (hr : RdAt X R w' tv l3 (((nds ++ a.emit nds.length) ++ b.emit (nds ++ a.emit nds.length).length) ++ [binN t (nds.length + a.size - 1) ((nds ++ a.emit nds.length).length + b.size - 1)]) d (max (max dp (d + a.nest)) (d + b.nest)) (max (max m a.most) b.most)) :
    ChAt X k l O R nds d dp m w0 (.bin a t b) l3 w' := by
  refine ⟨?_, ?_, ?_, h.frm.trans hf, tv, hr.cast ?_ ?_ ?_⟩
  · rw [h.all, rd_tail, if_pos ht, hb]
  · have := rd_toks hb
    simp only [Md.left, List.nil_append] at this
    rw [h.toks, this]; simp [Syn.toks]
  · have hw := rd_wf hb (by simp [Md.ok])
    simp only [Md.lev] at hw
    rw [Nat.min_eq_left (by omega)] at hw
    subst ht
    exact ⟨Nat.le_refl _, h1, h.wf, hw⟩
  · rw [List.length_append, emit_len]
    simp [Syn.emit]
  · simp only [Syn.nest]; omega
  · simp only [Syn.most]; omega
theorem ChAt.stop {k : Nat} {l : List Tk} {O : Rs} {R : Nat} {nds : List Nd} {d dp m : Nat} {w0 w : World} {a : Syn} {li : List Tk} (h : ChAt X k l O R nds d dp m w0 a li w) (hl : lineT (headT li) ≠ k) : O = some (a, li) := by
  rw [h.all]
  cases li with
  | nil => rfl
  | cons t l2 =>
    have hl : lineT t ≠ k := hl
    rw [rd_tail, if_neg hl]
theorem ChAt.none {k : Nat} {l : List Tk} {O : Rs} {R : Nat} {nds : List Nd} {d dp m : Nat} {w0 w : World} {a : Syn} {t : Tk} {l2 : List Tk} (h : ChAt X k l O R nds d dp m w0 a (t :: l2) w) (ht : lineT t = k) (hb : rd (.chain (k + 1)) l2 = none) : O = none := by
  rw [h.all, rd_tail, if_pos ht, hb]
theorem ChAt.fit {k : Nat} {l : List Tk} {O : Rs} {R : Nat} {nds : List Nd} {d dp m : Nat} {w0 w : World} {a : Syn} {li : List Tk} (h : ChAt X k l O R nds d dp m w0 a li w) (hf : Fit l nds d dp m) : Fit li (nds ++ a.emit nds.length) d (max dp (d + a.nest)) (max m a.most) := fit_next hf h.toks h.wf
theorem opS_noT : lineT noT = 0 := by decide
set_option maxRecDepth 100000 in
set_option maxHeartbeats 4000000 in
theorem chain_top (l : List Tk) (h : RdOk 152 [] (rd .signed l) l) : RdOk 96 [.int .i64 6] (rd (.chain 6) l) l := by
  intro X R w tv nds d dp m hr hf
  rw [rd_chain, if_pos (by omega)]
  have HC := hide (h X R w tv nds d dp m hr hf)
  clear h hr hf
  simp only [List.toArray] at HC
  unfold RdPost at HC ⊢
  cases ho : rd .signed l with
  | none =>
    rw [ho] at HC
    clear ho
    go_enter Tryz.func96, Tryz.ntmps96
    go_wp2_with fail
    refine (unhide HC).mono ?_
    rintro e w1 ⟨rfl, hf⟩
    go_wp2
    exact ⟨rfl, rfl, hf⟩
  | some p =>
    obtain ⟨s, r⟩ := p
    rw [ho] at HC
    clear ho
    go_enter Tryz.func96, Tryz.ntmps96
    go_wp2_with fail
    refine (unhide HC).mono ?_
    rintro e w1 ⟨rfl, hf, hx⟩
    have HX := hide hx
    clear hx
    go_wp2
    exact bodyPost_ret (v := .int .i64 ((nds.length + s.size - 1 : Nat) : Int)) (results_t1 rfl _ _ _ rfl) rfl ⟨rfl, hf, unhide HX⟩
set_option maxRecDepth 100000 in
set_option maxHeartbeats 4000000 in
theorem chain_low (k : Nat) (h1 : 1 ≤ k) (h5 : k ≤ 5) (l : List Tk) (h : ∀ l', l'.length ≤ l.length → RdOk 96 [.int .i64 ((k + 1 : Nat) : Int)] (rd (.chain (k + 1)) l') l') :
    RdOk 96 [.int .i64 (k : Int)] (rd (.chain k) l) l := by
  intro X R w tv nds d dp m hr hf
  have HC := hide (h l (Nat.le_refl _) X R w tv nds d dp m hr hf)
  have HH := hide h
  have HR := hide hr
  have HF := hide hf
  have hRlt := hr.lt
  clear h hr hf
  obtain ⟨O, hO⟩ : ∃ O, rd (.chain k) l = O := ⟨_, rfl⟩
  have HO := hide hO
  rw [hO]
  clear hO
  simp only [List.toArray, Int.natCast_add, Int.cast_ofNat_Int] at HC
  unfold RdPost at HC
  have hk5 : ¬ (5 : Int) < (k : Int) := by omega
  cases ho : rd (.chain (k + 1)) l with
  | none =>
    have e : O = none := by rw [← unhide HO, rd_chain, if_neg (by omega), ho]
    rw [ho] at HC
    subst e
    clear ho
    go_enter Tryz.func96, Tryz.ntmps96
    go_wp2_with fail
    refine (unhide HC).mono ?_
    rintro e w1 ⟨rfl, hf⟩
    go_wp2
    exact ⟨rfl, rfl, hf⟩
  | some p =>
    obtain ⟨a, li⟩ := p
    rw [ho] at HC
    simp only [] at HC
    have H0 : Hid (O = rd (.tail k a) li ∧ l = a.toks ++ li ∧ a.wf k) := hide (by
      refine ⟨by rw [← unhide HO, rd_chain, if_neg (by omega), ho], rd_toks ho, ?_⟩
      have := rd_wf ho (by simp [Md.ok])
      simp only [Md.lev] at this
      exact wf_down this (by omega) (by omega))
    clear ho
    go_enter Tryz.func96, Tryz.ntmps96
    go_wp2_with fail
    refine (unhide HC).mono ?_
    rintro e w1 ⟨rfl, hf1, hx1⟩
    have A0 : Hid (ChAt X k l O R nds d dp m w a li w1) := hide ⟨(unhide H0).1, (unhide H0).2.1, (unhide H0).2.2, hf1, hx1⟩
    clear hf1 hx1 H0 HC
    go_wp2_with fail
    go_loopw [5] (fun v wr => ∃ (a : Syn) (li : List Tk), v = .int .i64 ((nds.length + a.size - 1 : Nat) : Int) ∧ Hid (ChAt X k l O R nds d dp m w a li wr)) (fun _ wr => restLen (wr.cell? ⟨R, 0, none⟩))
    case atStart => exact ⟨a, li, rfl, A0⟩
    case round =>
      clear A0
      obtain ⟨a, li, rfl, HA⟩ := hrel
      obtain ⟨tva, hRA⟩ := (unhide HA).at_
      have HRA := hide hRA
      have HOP := hide (rop_val R wr tva li _ d _ _ hRA)
      have HFI := hide ((unhide HA).fit (unhide HF))
      have hlen := rest_len hRA
      have HLE := hide hlen
      clear hRA hlen
      have HBD := hide (fun s (e : s = opS (headT li)) w => bind_line s (headT li) e w)
      by_cases hl : lineT (headT li) = k
      · cases li with
        | nil => exact absurd hl (by rw [show headT [] = noT from rfl, opS_noT]; omega)
        | cons t l2 =>
          have hl : lineT t = k := hl
          have kt := (line_kind (t := t) (by omega)).1
          have HL := hide hl
          rw [show headT (t :: l2) = t from rfl] at HOP HBD
          rw [hl] at HBD
          clear hl
          go_wp2_with fail
          refine (unhide HOP).mono ?_
          rintro e wa ⟨rfl, ba⟩
          have HRB := hide ((unhide HRA).nx ba)
          have FA : Hid (Frm R wr wa) := hide (Frm.of ba)
          clear ba HOP HRA
          go_wp2_with fail
          refine (unhide HBD _ rfl _).mono ?_
          rintro e wb ⟨rfl, rfl⟩
          clear HBD
          have HTK := hide (take_ok R wb tva t l2 _ d _ _ (unhide HRB) (by have := (unhide HFI).nodes; simp only [List.length_cons] at this; omega))
          rw [kt] at HTK
          have fl1 := tk_fld1 t
          go_wp2_with fail
          refine (unhide HTK).mono ?_
          rintro e wc ⟨rfl, rc, fc⟩
          have HRC := hide rc
          replace FA := hide ((unhide FA).trans fc)
          have HFT := hide (fit_tail (unhide HFI))
          clear rc fc HTK HRB HFI
          have HCC := hide (unhide HH l2 (by have := congrArg List.length (unhide HA).toks; simp only [List.length_append, List.length_cons] at this; omega) X R wc tva _ d _ _ (unhide HRC) (unhide HFT))
          simp only [List.toArray, Int.natCast_add, Int.cast_ofNat_Int] at HCC
          unfold RdPost at HCC
          clear HH HFT
          cases hb : rd (.chain (k + 1)) l2 with
          | none =>
            have hO := (unhide HA).none (unhide HL) hb
            rw [hb] at HCC
            simp only [] at HCC
            subst hO
            clear hb
            go_wp2_with fail
            refine (unhide HCC).mono ?_
            rintro e wd ⟨rfl, fd⟩
            have FD := hide ((unhide HA).frm.trans ((unhide FA).trans fd))
            clear fd
            go_wp2
            exact ⟨rfl, rfl, unhide FD⟩
          | some p =>
            obtain ⟨b, l3⟩ := p
            rw [hb] at HCC
            simp only [] at HCC
            have HB := hide hb
            clear hb
            obtain ⟨pa, hpa⟩ : ∃ pa : Nat, nds.length + a.size - 1 = pa := ⟨_, rfl⟩
            obtain ⟨pb, hpb⟩ : ∃ pb : Nat, (nds ++ a.emit nds.length).length + b.size - 1 = pb := ⟨_, rfl⟩
            have PA := hide hpa
            have PB := hide hpb
            rw [hpb] at HCC
            rw [hpa]
            clear hpa hpb
            go_wp2_with fail
            refine (unhide HCC).mono ?_
            rintro e wd ⟨rfl, fd, tvd, rd'⟩
            have HRD := hide rd'
            replace FA := hide ((unhide FA).trans fd)
            clear rd' fd HCC HRC
            have hRd := (unhide HRD).lt
            have HP := hide (put_val R _ tvd l3 _ d _ _ (binN t pa pb) (.slice (some ⟨wd.heap.size, 0, none⟩) 2 2) ((unhide HRD).nx (below_al wd (.cells #[.int .i64 (pa : Int), .int .i64 (pb : Int)] 3))) (kidsX_two (unhide HRD) (pa : Int) (pb : Int)) (by
              have := ((unhide HA).fit (unhide HF)).nodes
              have h2 := (size_toks b).1
              have h3 := congrArg List.length (rd_toks (unhide HB))
              simp only [Md.left, List.nil_append, List.length_append, List.length_cons, emit_len] at this h3 ⊢
              omega))
            unfold binN Nd.cells zVl zeroF zeroR at HP
            simp only [] at HP
            go_wp2_with fail
            refine (unhide HP).mono ?_
            rintro e we ⟨rfl, tve, re, fe⟩
            have HRE := hide re
            replace FA := hide (((unhide FA).trans (Frm.of (below_al wd (.cells #[.int .i64 (pa : Int), .int .i64 (pb : Int)] 3)))).trans fe)
            clear re fe HP HRD
            have HN : Hid (ChAt X k l O R nds d dp m w (.bin a t b) l3 we) := hide (by
              refine (unhide HA).step (unhide HL) h1 h5 (unhide HB) (unhide FA) (tv := tve) ?_
              rw [unhide PA, unhide PB]
              exact unhide HRE)
            go_wp2
            go_roundw
            case rel =>
              refine ⟨.bin a t b, l3, ?_, HN⟩
              have hs := size_pos (unhide HA).wf (by omega)
              simp only [emit_len, Syn.size]
              congr 1
            case measure =>
              obtain ⟨tvx, hx⟩ := (unhide HN).at_
              rw [rest_len hx, unhide HLE]
              have := rd_short (unhide HB)
              simp only [List.length_cons]; omega
      · have hO := (unhide HA).stop hl
        subst hO
        have HNE : Hid (¬ ((lineT (headT li) : Int) = (k : Int))) := hide (by omega)
        clear hl
        go_wp2_with fail
        refine (unhide HOP).mono ?_
        rintro e wa ⟨rfl, ba⟩
        have HRB := hide ((unhide HRA).nx ba)
        have FA : Hid (Frm R wr wa) := hide (Frm.of ba)
        clear ba HOP HRA
        go_wp2_with fail
        refine (unhide HBD _ rfl _).mono ?_
        rintro e wb ⟨rfl, rfl⟩
        have hne := unhide HNE
        generalize (lineT (headT li) : Int) = x at hne ⊢
        go_wp2
        exact bodyPost_ret (v := .int .i64 ((nds.length + a.size - 1 : Nat) : Int)) (results_t1 rfl _ _ _ rfl) rfl ⟨rfl, (unhide HA).frm.trans (unhide FA), _, unhide HRB⟩
end Go.Proofs.YtloamahbghjjgaaGreatDoor
