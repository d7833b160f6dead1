/- The walk of word. -/
import Derived.Test.YtloamahbghjjgaaGreatDoorPbJ
namespace Go.Proofs.YtloamahbghjjgaaGreatDoor
open Go.RowKit
variable {X : Nat → Prop}

def wordO (t : Tk) (l : List Tk) : Rs :=
  match l with
  | [] => some (.atom t, [])
  | o :: m => if o.kind = 6 then closeS (rd .args m) (.call t o) else some (.atom t, o :: m)
theorem word_no {t : Tk} {l : List Tk} (h : (headT l).kind ≠ 6) : wordO t l = some (.atom t, l) := by
  cases l with
  | nil => rfl
  | cons o m =>
    have h : o.kind ≠ 6 := h
    simp only [wordO]; rw [if_neg h]
theorem close_none {O : Rs} {mk : Syn → Tk → Syn} (h : closeS O (fun s _ => s) = none) : closeS O mk = none := by
  rcases O with _ | ⟨s, _ | ⟨c, r⟩⟩
  · rfl
  · rfl
  · simp only [closeS] at h ⊢
    by_cases hk : c.kind = 7
    · rw [if_pos hk] at h; cases h
    · rw [if_neg hk]
theorem close_some {O : Rs} {mk : Syn → Tk → Syn} {s : Syn} {r : List Tk} (h : closeS O (fun s _ => s) = some (s, r)) : ∃ c, O = some (s, c :: r) ∧ closeS O mk = some (mk s c, r) := by
  rcases O with _ | ⟨s', _ | ⟨c, r'⟩⟩
  · cases h
  · cases h
  · simp only [closeS] at h ⊢
    by_cases hk : c.kind = 7
    · rw [if_pos hk] at h
      cases h
      exact ⟨c, rfl, by rw [if_pos hk]⟩
    · rw [if_neg hk] at h; cases h
theorem kids_form {w : World} {B : Nat} {kv : Value} {ks : List Int} (h : KidsAt w B kv ks) : ∃ a cap, kv = .slice a ks.length cap := by
  rcases h.2 with ⟨rfl, h0⟩ | ⟨g, cap, cur, rfl, _⟩
  · exact ⟨none, 0, by rw [h0]⟩
  · exact ⟨_, cap, rfl⟩
set_option maxRecDepth 100000 in
set_option maxHeartbeats 4000000 in
theorem word_lit (t : Tk) (l : List Tk) (ht : t.kind = 4) (h6 : (headT l).kind ≠ 6) (R : Nat) (w : World) (tv : Value) (nds : List Nd) (d dp m : Nat) (hr : RdAt X R w tv (t :: l) nds d dp m) (hf : Fit (t :: l) nds d dp m) (hdp : d ≤ dp) :
    Calls Tryz.prog 245 #[.pointer (some ⟨R, 0, none⟩)] w (RdPost X R nds d dp m w (some (.atom t, l))) := by
  have hlen : nds.length + l.length ≤ 3000 := by have := hf.nodes; rw [List.length_cons] at this; omega
  have HTK := hide (take_ok R w tv t l _ d _ _ hr (by omega))
  rw [ht] at HTK
  have HLI := hide (fun w => literal_val t w (by have := hf.text t (by simp); omega))
  have zT := tk_size t
  clear hr hf
  have hn : atomN t = ⟨0, emp, litV t, zeroF, []⟩ := by
    unfold atomN; rw [if_neg (by omega)]
  have HN := hide hn
  clear hn
  go_enter Tryz.func245, Tryz.ntmps245
  go_wp2_with fail
  refine (unhide HTK).mono ?_
  rintro e wa ⟨rfl, ra, fa⟩
  have HRA := hide (ra.nx (below_al wa (.cells t.cells tkT)))
  have FA := hide (fa.trans (Frm.of (below_al wa (.cells t.cells tkT))))
  have st := tk_new wa t
  have CT := hide (cells_new wa tkT t.cells)
  have HAH := hide (ahead_val R _ tv l _ d _ _ (ra.nx (below_al wa (.cells t.cells tkT))))
  have fl0 := tk_fld0 (headT l)
  have hne : ((headT l).kind != 6) = true := by simpa using h6
  clear ra fa HTK
  go_wp2_with fail
  clear st
  generalize hW : wa.alloc (.cells t.cells tkT) = W1 at HRA FA CT HAH ⊢
  obtain ⟨N1, hN1⟩ : ∃ N1, wa.heap.size = N1 := ⟨_, rfl⟩
  rw [hN1] at CT ⊢
  clear hW hN1
  generalize headT l = T at HAH fl0 hne
  clear h6
  refine (unhide HAH).mono ?_
  rintro e wb ⟨rfl, bb⟩
  have HRB := hide ((unhide HRA).nx bb)
  replace FA := hide ((unhide FA).trans (Frm.of bb))
  have CB := hide (range_cells (cells_nx (unhide CT) bb))
  clear bb HRA CT HAH
  go_wp2_with (refine wpList_load_mid rfl 116 _ rfl N1 0 rfl t.cells.toList _ (unhide CB) Tryz.underlying116 rfl infoTk ?_)
  refine (unhide HLI _).mono ?_
  rintro e wc ⟨rfl, bc⟩
  have HRC := hide ((unhide HRB).nx bc)
  replace FA := hide ((unhide FA).trans (Frm.of bc))
  clear bc HRB CB HLI
  have HP := hide (put_val R _ tv l _ d _ _ (atomN t) (.slice none 0 0) (unhide HRC) (by rw [unhide HN]; exact kidsX_nil _ _) (by omega))
  rw [unhide HN] at HP
  unfold Nd.cells zeroF zeroR at HP
  simp only [] at HP
  clear HRC
  obtain ⟨V, hV⟩ : ∃ V, litV t = V := ⟨_, rfl⟩
  have HV := hide hV
  rw [hV] at HP ⊢
  clear hV
  obtain ⟨V0, V1, V2, V3, V4⟩ := V
  unfold Vl.cells
  simp only [] at HP ⊢
  go_wp2_with fail
  refine (unhide HP).mono ?_
  rintro e we ⟨rfl, tve, re, fe⟩
  have HRE := hide re
  replace FA := hide ((unhide FA).trans fe)
  clear re fe HP
  go_wp2
  refine bodyPost_ret (v := .int .i64 (nds.length : Int)) (results_t1 rfl _ _ _ rfl) rfl ?_
  unfold RdPost
  refine ⟨by simp [Syn.size], unhide FA, tve, (unhide HRE).cast ?_ (by simp only [Syn.nest]; omega) (by simp [Syn.most])⟩
  simp only [Syn.emit]
  rw [unhide HN, unhide HV]
  rfl
set_option maxRecDepth 100000 in
set_option maxHeartbeats 4000000 in
theorem word_call (t o : Tk) (l : List Tk) (ht : t.kind = 4) (ho : o.kind = 6) (h : ArOk l) (R : Nat) (w : World) (tv : Value) (nds : List Nd) (d dp m : Nat) (hr : RdAt X R w tv (t :: o :: l) nds d dp m) (hf : Fit (t :: o :: l) nds d dp m) (hdp : d ≤ dp) :
    Calls Tryz.prog 245 #[.pointer (some ⟨R, 0, none⟩)] w (RdPost X R nds d dp m w (closeS (rd .args l) (.call t o))) := by
  have hlen : nds.length + l.length ≤ 3000 := by have := hf.nodes; simp only [List.length_cons] at this; omega
  have hR := hr.lt
  have HTK := hide (take_ok R w tv t (o :: l) _ d _ _ hr (by rw [List.length_cons]; omega))
  rw [ht] at HTK
  have HEN := hide (fun w2 (h1 : RdAt X R w2 tv (o :: l) nds d dp m) => enc_args o l ho h R w2 tv nds d dp m h1 (fit_tail hf) hdp)
  have HF := hide hf
  have zT := tk_size t
  obtain ⟨O, hO⟩ : ∃ O, rd .args l = O := ⟨_, rfl⟩
  have HQ := hide hO
  rw [hO] at HEN ⊢
  clear hr hf h hO
  go_enter Tryz.func245, Tryz.ntmps245
  go_wp2_with fail
  refine (unhide HTK).mono ?_
  rintro e wa ⟨rfl, ra, fa⟩
  have HRA := hide (ra.nx (below_al wa (.cells t.cells tkT)))
  have FA := hide (fa.trans (Frm.of (below_al wa (.cells t.cells tkT))))
  have st := tk_new wa t
  have CT := hide (cells_new wa tkT t.cells)
  have HAH := hide (ahead_val R _ tv (o :: l) _ d _ _ (ra.nx (below_al wa (.cells t.cells tkT))))
  rw [show headT (o :: l) = o from rfl] at HAH
  have fl0 := tk_fld0 o
  have hNR : R < wa.heap.size := Nat.lt_of_lt_of_le hR fa.size
  rw [ho] at fl0
  clear ra fa HTK
  go_wp2_with fail
  clear st
  generalize hW : wa.alloc (.cells t.cells tkT) = W1 at HRA FA CT HAH ⊢
  obtain ⟨N1, hN1⟩ : ∃ N1, wa.heap.size = N1 := ⟨_, rfl⟩
  rw [hN1] at CT hNR ⊢
  clear hW hN1
  refine (unhide HAH).mono ?_
  rintro e wb ⟨rfl, bb⟩
  have HRB := hide ((unhide HRA).nx bb)
  replace FA := hide ((unhide FA).trans (Frm.of bb))
  replace CT := hide (cells_nx (unhide CT) bb)
  clear bb HRA HAH
  have HE := hide (unhide HEN wb (unhide HRB))
  clear HEN HRB
  unfold EnPost at HE
  cases hq : closeS O (fun s _ => s) with
  | none =>
    have HQ2 := hide hq
    rw [hq] at HE
    simp only [] at HE
    clear hq
    go_wp2_with fail
    refine (unhide HE).mono ?_
    rintro e wd ⟨rfl, fd⟩
    have FB := hide ((unhide FA).trans fd)
    clear fd
    go_wp2
    refine ⟨rfl, ?_⟩
    rw [close_none (unhide HQ2)]
    exact ⟨rfl, unhide FB⟩
  | some p =>
    obtain ⟨s, r⟩ := p
    obtain ⟨c, hOc, hcl⟩ := close_some (mk := .call t o) hq
    have HCL := hide hcl
    rw [hq] at HE
    simp only [] at HE
    have HW := hide hOc
    clear hq hcl hOc
    go_wp2_with fail
    refine (unhide HE).mono ?_
    rintro e wd ⟨kv, rfl, kd, fd, tvd, rd'⟩
    obtain ⟨ka, kcap, rfl⟩ := kids_form kd.1
    have hkl : ((s.kidsL nds.length).map fun k : Nat => (k : Int)).length = (s.kidsL 0).length := by rw [List.length_map, kids_len]
    obtain ⟨nk, hnk⟩ : ∃ nk, ((s.kidsL nds.length).map fun k : Nat => (k : Int)).length = nk := ⟨_, rfl⟩
    rw [hnk] at kd hkl ⊢
    obtain ⟨MX, hMX⟩ : ∃ MX, max (max m s.most) nk = MX := ⟨_, rfl⟩
    have HMX := hide hMX
    clear hMX
    obtain ⟨k4, f4⟩ := rd'.cell4
    have CT2 := fd.cells (unhide CT) (show N1 ≠ R by omega) (by decide)
    have HRD := hide rd'
    have KD := hide (kids_set (i := 4) (v := .int .i64 (MX : Int)) kd.1)
    have KX := hide kd.2
    replace FA := hide (((unhide FA).trans fd).set 4 (.int .i64 (MX : Int)))
    have HKL := hide hkl
    have hx1 : (wd.setCell ⟨R, 4, none⟩ (.int .i64 (MX : Int))).cell? ⟨N1, 1, none⟩ = some (.string t.text) := cells_c (cells_set_far CT2 (show N1 ≠ R by omega) 4 (.int .i64 (MX : Int))) 1 _ rfl
    clear rd' fd kd hkl hnk CT CT2 HE
    have HR4 := hide ((unhide HRD).mostly MX)
    clear HRD
    have hcnt : (nds ++ s.emit nds.length).length ≤ 10000 := by
      have h1 := (size_toks s).1
      have h2 := rd_toks ((unhide HQ).trans (unhide HW))
      have h3 := congrArg List.length h2
      simp only [Md.left, List.nil_append, List.length_append, List.length_cons, emit_len] at h3 ⊢
      omega
    have HCT := hide hcnt
    have hmx : max ((max m s.most : Nat) : Int) (nk : Int) = (MX : Int) := by have := unhide HMX; omega
    clear hcnt
    go_upto_region 6 with fail
    generalize hW : wd.setCell ⟨R, 4, none⟩ (.int .i64 (MX : Int)) = W4 at KD FA hx1 HR4 ⊢
    clear hW k4 f4 hmx
    have HP := hide (put_val R W4 tvd r _ d _ _ (callN t (s.kidsL nds.length)) (.slice ka nk kcap) (unhide HR4) ⟨unhide KD, unhide KX⟩ (unhide HCT))
    unfold callN Nd.cells zVl zeroF zeroR at HP
    simp only [] at HP
    go_wp2_with fail
    refine (unhide HP).mono ?_
    rintro e we ⟨rfl, tve, re, fe⟩
    have HRE := hide re
    replace FA := hide ((unhide FA).trans fe)
    clear re fe HP HR4 KD KX
    go_wp2
    refine bodyPost_ret (v := .int .i64 (((nds ++ s.emit nds.length).length : Nat) : Int)) (results_t1 rfl _ _ _ (by simp)) rfl ?_
    rw [unhide HCL]
    unfold RdPost
    refine ⟨by simp [Syn.size, emit_len], unhide FA, tve, (unhide HRE).cast ?_ (by simp only [Syn.nest]) ?_⟩
    · simp only [Syn.emit]
      rw [List.append_assoc]; rfl
    · simp only [Syn.most]
      have := unhide HMX
      have := unhide HKL
      omega
end Go.Proofs.YtloamahbghjjgaaGreatDoor
