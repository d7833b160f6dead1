/- The walk of operand. -/
import Derived.Test.YtloamahbghjjgaaGreatDoorPbK
namespace Go.Proofs.YtloamahbghjjgaaGreatDoor
open Go.RowKit
variable {X : Nat → Prop}

theorem RdAt.drew {R : Nat} {w : World} {tv : Value} {l : List Tk} {nds : List Nd} {d dp m : Nat} (h : RdAt X R w tv l nds d dp m) : RdAt X R w.drew tv l nds d dp m := h.nx (Below.refl _ _).drew
theorem word_ok (t : Tk) (l : List Tk) (ht : t.kind = 4) (h : ∀ o m, l = o :: m → ArOk m) (R : Nat) (w : World) (tv : Value) (nds : List Nd) (d dp m : Nat) (hr : RdAt X R w tv (t :: l) nds d dp m) (hf : Fit (t :: l) nds d dp m) (hdp : d ≤ dp) :
    Calls Tryz.prog 245 #[.pointer (some ⟨R, 0, none⟩)] w (RdPost X R nds d dp m w (wordO t l)) := by
  by_cases h6 : (headT l).kind = 6
  · cases l with
    | nil => exact absurd h6 (by decide)
    | cons o q =>
      have h6 : o.kind = 6 := h6
      have := word_call t o q ht h6 (h o q rfl) R w tv nds d dp m hr hf hdp
      simp only [wordO]
      rw [if_pos h6]
      exact this
  · rw [word_no h6]
    exact word_lit t l ht h6 R w tv nds d dp m hr hf hdp
/-- What is told at the nesting that operand has noted, as at the one before. -/
theorem post_dp {R : Nat} {nds : List Nd} {d dp MX m : Nat} {w0 w : World} {o : Rs} {e : Ending} {w' : World} (hM : max dp d = MX) (hf : Frm R w0 w) (h : RdPost X R nds d MX m w o e w') : RdPost X R nds d dp m w0 o e w' := by
  unfold RdPost at h ⊢
  cases o with
  | none => exact ⟨h.1, hf.trans h.2⟩
  | some p =>
    obtain ⟨h1, h2, tv, h3⟩ := h
    exact ⟨h1, hf.trans h2, tv, h3.cast rfl (by omega) rfl⟩
set_option maxRecDepth 100000 in
set_option maxHeartbeats 4000000 in
theorem op_bad (l : List Tk) (hb : ∀ k : Int, k ∈ [0, 1, 2, 3, 4, 6] → (headT l).kind ≠ k) (R : Nat) (w : World) (tv : Value) (nds : List Nd) (d dp m : Nat) (hr : RdAt X R w tv l nds d dp m) (hf : Fit l nds d dp m) :
    Calls Tryz.prog 220 #[.pointer (some ⟨R, 0, none⟩)] w (RdPost X R nds d dp m w none) := by
  have n0 := hb 0 (by simp)
  have n1 := hb 1 (by simp)
  have n2 := hb 2 (by simp)
  have n3 := hb 3 (by simp)
  have n4 := hb 4 (by simp)
  have n6 := hb 6 (by simp)
  clear hb
  have hf' := hf
  have HF := hide hf'
  have hlen : l.length ≤ 3000 := by have := hf.nodes; omega
  have hRlt := hr.lt
  obtain ⟨MX, hMX⟩ : ∃ MX, max dp d = MX := ⟨_, rfl⟩
  have HMX := hide hMX
  obtain ⟨k3, f3⟩ := hr.drew.cell3
  obtain ⟨k2, f2⟩ := hr.drew.cell2
  have hmx : max (dp : Int) (d : Int) = (MX : Int) := by omega
  have HR := hide ((hr.deepest MX).drew)
  have FA : Hid (Frm R w (w.setCell ⟨R, 3, none⟩ (.int .i64 (MX : Int))).drew) := hide (((Frm.refl R w).set 3 _).trans (Frm.of (Below.refl _ _).drew))
  clear hr hf hf' hMX
  go_enter Tryz.func220, Tryz.ntmps220
  go_upto_region 1 with fail
  go_region
  clear k3 f3 k2 f2 hmx
  go_wp2_with fail
  generalize hW : (w.setCell ⟨R, 3, none⟩ (.int .i64 (MX : Int))).drew = W0 at HR FA ⊢
  clear hW
  have HAH := hide (ahead_val R W0 tv l nds d _ m (unhide HR))
  obtain ⟨t, ht⟩ : ∃ t, headT l = t := ⟨_, rfl⟩
  rw [ht] at HAH n0 n1 n2 n3 n4 n6
  clear ht
  refine (unhide HAH).mono ?_
  rintro e wa ⟨rfl, ba⟩
  have HRA := hide (((unhide HR).nx ba).nx (below_al wa (.cells t.cells tkT)))
  replace FA := hide (((unhide FA).trans (Frm.of ba)).trans (Frm.of (below_al wa (.cells t.cells tkT))))
  have st := tk_new wa t
  have k0 := tk_kind wa t
  have zT := tk_size t
  have e0 : (t.kind == 0) = false := by simpa using n0
  have e1 : (t.kind == 1) = false := by simpa using n1
  have e2 : (t.kind == 2) = false := by simpa using n2
  have e3 : (t.kind == 3) = false := by simpa using n3
  have e4 : (t.kind == 4) = false := by simpa using n4
  have e6 : (t.kind == 6) = false := by simpa using n6
  clear n0 n1 n2 n3 n4 n6
  have FI : Hid (Fit l nds d MX m) := hide (by have h := unhide HF; exact ⟨h.text, h.nodes, h.deep, by have := h.dp; have := h.deep; have := unhide HMX; omega, h.most⟩)
  clear ba HAH HR
  go_wp2
  exact ⟨rfl, rfl, unhide FA⟩
set_option maxRecDepth 100000 in
set_option maxHeartbeats 4000000 in
theorem op_lit0 (t : Tk) (l : List Tk) (hk : t.kind = 0) (R : Nat) (w : World) (tv : Value) (nds : List Nd) (d dp m : Nat) (hr : RdAt X R w tv (t :: l) nds d dp m) (hf : Fit (t :: l) nds d dp m) :
    Calls Tryz.prog 220 #[.pointer (some ⟨R, 0, none⟩)] w (RdPost X R nds d dp m w (some (.atom t, l))) := by
  have hn : atomN t = ⟨0, emp, litV t, zeroF, []⟩ := by
    unfold atomN; rw [if_neg (by omega)]
  have HN := hide hn
  clear hn
  have hf' := hf
  have HF := hide hf'
  have hlen : (t :: l).length ≤ 3000 := by have := hf.nodes; omega
  have hRlt := hr.lt
  obtain ⟨MX, hMX⟩ : ∃ MX, max dp d = MX := ⟨_, rfl⟩
  have HMX := hide hMX
  obtain ⟨k3, f3⟩ := hr.drew.cell3
  obtain ⟨k2, f2⟩ := hr.drew.cell2
  have hmx : max (dp : Int) (d : Int) = (MX : Int) := by omega
  have HR := hide ((hr.deepest MX).drew)
  have FA : Hid (Frm R w (w.setCell ⟨R, 3, none⟩ (.int .i64 (MX : Int))).drew) := hide (((Frm.refl R w).set 3 _).trans (Frm.of (Below.refl _ _).drew))
  clear hr hf hf' hMX
  go_enter Tryz.func220, Tryz.ntmps220
  go_upto_region 1 with fail
  go_region
  clear k3 f3 k2 f2 hmx
  go_wp2_with fail
  generalize hW : (w.setCell ⟨R, 3, none⟩ (.int .i64 (MX : Int))).drew = W0 at HR FA ⊢
  clear hW
  have HAH := hide (ahead_val R W0 tv (t :: l) nds d _ m (unhide HR))
  rw [show headT (t :: l) = t from rfl] at HAH
  refine (unhide HAH).mono ?_
  rintro e wa ⟨rfl, ba⟩
  have HRA := hide (((unhide HR).nx ba).nx (below_al wa (.cells t.cells tkT)))
  replace FA := hide (((unhide FA).trans (Frm.of ba)).trans (Frm.of (below_al wa (.cells t.cells tkT))))
  have st := tk_new wa t
  have k0 := tk_kind wa t
  have zT := tk_size t
  rw [hk] at k0
  have FI : Hid (Fit (t :: l) nds d MX m) := hide (by have h := unhide HF; exact ⟨h.text, h.nodes, h.deep, by have := h.dp; have := h.deep; have := unhide HMX; omega, h.most⟩)
  clear ba HAH HR
  have HLI := hide (fun w => literal_val t w (by have := (unhide FI).text t (by simp); omega))
  have HTK := hide (take_ok R _ tv t l nds d _ m (unhide HRA) (by rw [List.length_cons] at hlen; omega))
  rw [hk] at HTK
  clear hk HRA
  go_wp2_with fail
  refine (unhide HTK).mono ?_
  rintro e wb ⟨rfl, rb, fb⟩
  have HRB := hide rb
  replace FA := hide ((unhide FA).trans fb)
  clear rb fb HTK
  go_wp2_with fail
  refine (unhide HLI _).mono ?_
  rintro e wc ⟨rfl, bc⟩
  have HRC := hide ((unhide HRB).nx bc)
  replace FA := hide ((unhide FA).trans (Frm.of bc))
  clear bc HRB HLI
  have HP := hide (put_val R _ tv l _ d _ _ (atomN t) (.slice none 0 0) (unhide HRC) (by rw [unhide HN]; exact kidsX_nil _ _) (by have := (unhide FI).nodes; omega))
  rw [unhide HN] at HP
  unfold Nd.cells zeroF zeroR at HP
  simp only [] at HP
  clear HRC
  obtain ⟨V, hV⟩ : ∃ V, litV t = V := ⟨_, rfl⟩
  have HV := hide hV
  rw [hV] at HP ⊢
  clear hV
  obtain ⟨V0, V1, V2, V3, V4⟩ := V
  unfold Vl.cells
  simp only [] at HP ⊢
  go_wp2_with fail
  refine (unhide HP).mono ?_
  rintro e we ⟨rfl, tve, re, fe⟩
  have HRE := hide re
  replace FA := hide ((unhide FA).trans fe)
  clear re fe HP
  go_wp2
  refine bodyPost_ret (v := .int .i64 (nds.length : Int)) (results_t1 rfl _ _ _ rfl) rfl ?_
  unfold RdPost
  refine ⟨by simp [Syn.size], unhide FA, tve, (unhide HRE).cast ?_ (by have := unhide HMX; simp only [Syn.nest]; omega) (by simp [Syn.most])⟩
  simp only [Syn.emit]
  rw [unhide HN, unhide HV]
  rfl
set_option maxRecDepth 100000 in
set_option maxHeartbeats 4000000 in
theorem op_lit1 (t : Tk) (l : List Tk) (hk : t.kind = 1) (R : Nat) (w : World) (tv : Value) (nds : List Nd) (d dp m : Nat) (hr : RdAt X R w tv (t :: l) nds d dp m) (hf : Fit (t :: l) nds d dp m) :
    Calls Tryz.prog 220 #[.pointer (some ⟨R, 0, none⟩)] w (RdPost X R nds d dp m w (some (.atom t, l))) := by
  have hn : atomN t = ⟨0, emp, litV t, zeroF, []⟩ := by
    unfold atomN; rw [if_neg (by omega)]
  have HN := hide hn
  clear hn
  have hf' := hf
  have HF := hide hf'
  have hlen : (t :: l).length ≤ 3000 := by have := hf.nodes; omega
  have hRlt := hr.lt
  obtain ⟨MX, hMX⟩ : ∃ MX, max dp d = MX := ⟨_, rfl⟩
  have HMX := hide hMX
  obtain ⟨k3, f3⟩ := hr.drew.cell3
  obtain ⟨k2, f2⟩ := hr.drew.cell2
  have hmx : max (dp : Int) (d : Int) = (MX : Int) := by omega
  have HR := hide ((hr.deepest MX).drew)
  have FA : Hid (Frm R w (w.setCell ⟨R, 3, none⟩ (.int .i64 (MX : Int))).drew) := hide (((Frm.refl R w).set 3 _).trans (Frm.of (Below.refl _ _).drew))
  clear hr hf hf' hMX
  go_enter Tryz.func220, Tryz.ntmps220
  go_upto_region 1 with fail
  go_region
  clear k3 f3 k2 f2 hmx
  go_wp2_with fail
  generalize hW : (w.setCell ⟨R, 3, none⟩ (.int .i64 (MX : Int))).drew = W0 at HR FA ⊢
  clear hW
  have HAH := hide (ahead_val R W0 tv (t :: l) nds d _ m (unhide HR))
  rw [show headT (t :: l) = t from rfl] at HAH
  refine (unhide HAH).mono ?_
  rintro e wa ⟨rfl, ba⟩
  have HRA := hide (((unhide HR).nx ba).nx (below_al wa (.cells t.cells tkT)))
  replace FA := hide (((unhide FA).trans (Frm.of ba)).trans (Frm.of (below_al wa (.cells t.cells tkT))))
  have st := tk_new wa t
  have k0 := tk_kind wa t
  have zT := tk_size t
  rw [hk] at k0
  have FI : Hid (Fit (t :: l) nds d MX m) := hide (by have h := unhide HF; exact ⟨h.text, h.nodes, h.deep, by have := h.dp; have := h.deep; have := unhide HMX; omega, h.most⟩)
  clear ba HAH HR
  have HLI := hide (fun w => literal_val t w (by have := (unhide FI).text t (by simp); omega))
  have HTK := hide (take_ok R _ tv t l nds d _ m (unhide HRA) (by rw [List.length_cons] at hlen; omega))
  rw [hk] at HTK
  clear hk HRA
  go_wp2_with fail
  refine (unhide HTK).mono ?_
  rintro e wb ⟨rfl, rb, fb⟩
  have HRB := hide rb
  replace FA := hide ((unhide FA).trans fb)
  clear rb fb HTK
  go_wp2_with fail
  refine (unhide HLI _).mono ?_
  rintro e wc ⟨rfl, bc⟩
  have HRC := hide ((unhide HRB).nx bc)
  replace FA := hide ((unhide FA).trans (Frm.of bc))
  clear bc HRB HLI
  have HP := hide (put_val R _ tv l _ d _ _ (atomN t) (.slice none 0 0) (unhide HRC) (by rw [unhide HN]; exact kidsX_nil _ _) (by have := (unhide FI).nodes; omega))
  rw [unhide HN] at HP
  unfold Nd.cells zeroF zeroR at HP
  simp only [] at HP
  clear HRC
  obtain ⟨V, hV⟩ : ∃ V, litV t = V := ⟨_, rfl⟩
  have HV := hide hV
  rw [hV] at HP ⊢
  clear hV
  obtain ⟨V0, V1, V2, V3, V4⟩ := V
  unfold Vl.cells
  simp only [] at HP ⊢
  go_wp2_with fail
  refine (unhide HP).mono ?_
  rintro e we ⟨rfl, tve, re, fe⟩
  have HRE := hide re
  replace FA := hide ((unhide FA).trans fe)
  clear re fe HP
  go_wp2
  refine bodyPost_ret (v := .int .i64 (nds.length : Int)) (results_t1 rfl _ _ _ rfl) rfl ?_
  unfold RdPost
  refine ⟨by simp [Syn.size], unhide FA, tve, (unhide HRE).cast ?_ (by have := unhide HMX; simp only [Syn.nest]; omega) (by simp [Syn.most])⟩
  simp only [Syn.emit]
  rw [unhide HN, unhide HV]
  rfl
set_option maxRecDepth 100000 in
set_option maxHeartbeats 4000000 in
theorem op_lit2 (t : Tk) (l : List Tk) (hk : t.kind = 2) (R : Nat) (w : World) (tv : Value) (nds : List Nd) (d dp m : Nat) (hr : RdAt X R w tv (t :: l) nds d dp m) (hf : Fit (t :: l) nds d dp m) :
    Calls Tryz.prog 220 #[.pointer (some ⟨R, 0, none⟩)] w (RdPost X R nds d dp m w (some (.atom t, l))) := by
  have hn : atomN t = ⟨0, emp, litV t, zeroF, []⟩ := by
    unfold atomN; rw [if_neg (by omega)]
  have HN := hide hn
  clear hn
  have hf' := hf
  have HF := hide hf'
  have hlen : (t :: l).length ≤ 3000 := by have := hf.nodes; omega
  have hRlt := hr.lt
  obtain ⟨MX, hMX⟩ : ∃ MX, max dp d = MX := ⟨_, rfl⟩
  have HMX := hide hMX
  obtain ⟨k3, f3⟩ := hr.drew.cell3
  obtain ⟨k2, f2⟩ := hr.drew.cell2
  have hmx : max (dp : Int) (d : Int) = (MX : Int) := by omega
  have HR := hide ((hr.deepest MX).drew)
  have FA : Hid (Frm R w (w.setCell ⟨R, 3, none⟩ (.int .i64 (MX : Int))).drew) := hide (((Frm.refl R w).set 3 _).trans (Frm.of (Below.refl _ _).drew))
  clear hr hf hf' hMX
  go_enter Tryz.func220, Tryz.ntmps220
  go_upto_region 1 with fail
  go_region
  clear k3 f3 k2 f2 hmx
  go_wp2_with fail
  generalize hW : (w.setCell ⟨R, 3, none⟩ (.int .i64 (MX : Int))).drew = W0 at HR FA ⊢
  clear hW
  have HAH := hide (ahead_val R W0 tv (t :: l) nds d _ m (unhide HR))
  rw [show headT (t :: l) = t from rfl] at HAH
  refine (unhide HAH).mono ?_
  rintro e wa ⟨rfl, ba⟩
  have HRA := hide (((unhide HR).nx ba).nx (below_al wa (.cells t.cells tkT)))
  replace FA := hide (((unhide FA).trans (Frm.of ba)).trans (Frm.of (below_al wa (.cells t.cells tkT))))
  have st := tk_new wa t
  have k0 := tk_kind wa t
  have zT := tk_size t
  rw [hk] at k0
  have FI : Hid (Fit (t :: l) nds d MX m) := hide (by have h := unhide HF; exact ⟨h.text, h.nodes, h.deep, by have := h.dp; have := h.deep; have := unhide HMX; omega, h.most⟩)
  clear ba HAH HR
  have HLI := hide (fun w => literal_val t w (by have := (unhide FI).text t (by simp); omega))
  have HTK := hide (take_ok R _ tv t l nds d _ m (unhide HRA) (by rw [List.length_cons] at hlen; omega))
  rw [hk] at HTK
  clear hk HRA
  go_wp2_with fail
  refine (unhide HTK).mono ?_
  rintro e wb ⟨rfl, rb, fb⟩
  have HRB := hide rb
  replace FA := hide ((unhide FA).trans fb)
  clear rb fb HTK
  go_wp2_with fail
  refine (unhide HLI _).mono ?_
  rintro e wc ⟨rfl, bc⟩
  have HRC := hide ((unhide HRB).nx bc)
  replace FA := hide ((unhide FA).trans (Frm.of bc))
  clear bc HRB HLI
  have HP := hide (put_val R _ tv l _ d _ _ (atomN t) (.slice none 0 0) (unhide HRC) (by rw [unhide HN]; exact kidsX_nil _ _) (by have := (unhide FI).nodes; omega))
  rw [unhide HN] at HP
  unfold Nd.cells zeroF zeroR at HP
  simp only [] at HP
  clear HRC
  obtain ⟨V, hV⟩ : ∃ V, litV t = V := ⟨_, rfl⟩
  have HV := hide hV
  rw [hV] at HP ⊢
  clear hV
  obtain ⟨V0, V1, V2, V3, V4⟩ := V
  unfold Vl.cells
  simp only [] at HP ⊢
  go_wp2_with fail
  refine (unhide HP).mono ?_
  rintro e we ⟨rfl, tve, re, fe⟩
  have HRE := hide re
  replace FA := hide ((unhide FA).trans fe)
  clear re fe HP
  go_wp2
  refine bodyPost_ret (v := .int .i64 (nds.length : Int)) (results_t1 rfl _ _ _ rfl) rfl ?_
  unfold RdPost
  refine ⟨by simp [Syn.size], unhide FA, tve, (unhide HRE).cast ?_ (by have := unhide HMX; simp only [Syn.nest]; omega) (by simp [Syn.most])⟩
  simp only [Syn.emit]
  rw [unhide HN, unhide HV]
  rfl
set_option maxRecDepth 100000 in
set_option maxHeartbeats 4000000 in
theorem op_ref (t : Tk) (l : List Tk) (hk : t.kind = 3) (R : Nat) (w : World) (tv : Value) (nds : List Nd) (d dp m : Nat) (hr : RdAt X R w tv (t :: l) nds d dp m) (hf : Fit (t :: l) nds d dp m) :
    Calls Tryz.prog 220 #[.pointer (some ⟨R, 0, none⟩)] w (RdPost X R nds d dp m w (some (.atom t, l))) := by
  have hn : atomN t = ⟨1, emp, zVl, t.ref, []⟩ := by
    unfold atomN; rw [if_pos hk]
  have HN := hide hn
  clear hn
  have hf' := hf
  have HF := hide hf'
  have hlen : (t :: l).length ≤ 3000 := by have := hf.nodes; omega
  have hRlt := hr.lt
  obtain ⟨MX, hMX⟩ : ∃ MX, max dp d = MX := ⟨_, rfl⟩
  have HMX := hide hMX
  obtain ⟨k3, f3⟩ := hr.drew.cell3
  obtain ⟨k2, f2⟩ := hr.drew.cell2
  have hmx : max (dp : Int) (d : Int) = (MX : Int) := by omega
  have HR := hide ((hr.deepest MX).drew)
  have FA : Hid (Frm R w (w.setCell ⟨R, 3, none⟩ (.int .i64 (MX : Int))).drew) := hide (((Frm.refl R w).set 3 _).trans (Frm.of (Below.refl _ _).drew))
  clear hr hf hf' hMX
  go_enter Tryz.func220, Tryz.ntmps220
  go_upto_region 1 with fail
  go_region
  clear k3 f3 k2 f2 hmx
  go_wp2_with fail
  generalize hW : (w.setCell ⟨R, 3, none⟩ (.int .i64 (MX : Int))).drew = W0 at HR FA ⊢
  clear hW
  have HAH := hide (ahead_val R W0 tv (t :: l) nds d _ m (unhide HR))
  rw [show headT (t :: l) = t from rfl] at HAH
  refine (unhide HAH).mono ?_
  rintro e wa ⟨rfl, ba⟩
  have HRA := hide (((unhide HR).nx ba).nx (below_al wa (.cells t.cells tkT)))
  replace FA := hide (((unhide FA).trans (Frm.of ba)).trans (Frm.of (below_al wa (.cells t.cells tkT))))
  have st := tk_new wa t
  have k0 := tk_kind wa t
  have zT := tk_size t
  rw [hk] at k0
  have FI : Hid (Fit (t :: l) nds d MX m) := hide (by have h := unhide HF; exact ⟨h.text, h.nodes, h.deep, by have := h.dp; have := h.deep; have := unhide HMX; omega, h.most⟩)
  clear ba HAH HR
  have HTK := hide (take_ok R _ tv t l nds d _ m (unhide HRA) (by rw [List.length_cons] at hlen; omega))
  rw [hk] at HTK
  have fl4 := tk_fld4 t
  clear hk HRA
  go_wp2_with fail
  refine (unhide HTK).mono ?_
  rintro e wb ⟨rfl, rb, fb⟩
  have HRB := hide rb
  replace FA := hide ((unhide FA).trans fb)
  clear rb fb HTK
  have HP := hide (put_val R _ tv l _ d _ _ (atomN t) (.slice none 0 0) (unhide HRB) (by rw [unhide HN]; exact kidsX_nil _ _) (by have := (unhide FI).nodes; omega))
  rw [unhide HN] at HP
  unfold Nd.cells zVl at HP
  simp only [] at HP
  clear HRB
  go_wp2_with fail
  refine (unhide HP).mono ?_
  rintro e we ⟨rfl, tve, re, fe⟩
  have HRE := hide re
  replace FA := hide ((unhide FA).trans fe)
  clear re fe HP
  go_wp2
  refine bodyPost_ret (v := .int .i64 (nds.length : Int)) (results_t1 rfl _ _ _ rfl) rfl ?_
  unfold RdPost
  refine ⟨by simp [Syn.size], unhide FA, tve, (unhide HRE).cast ?_ (by have := unhide HMX; simp only [Syn.nest]; omega) (by simp [Syn.most])⟩
  simp only [Syn.emit]
  rw [unhide HN]
  rfl
set_option maxRecDepth 100000 in
set_option maxHeartbeats 4000000 in
theorem op_word (t : Tk) (l : List Tk) (hk : t.kind = 4) (h : ∀ o m, l = o :: m → ArOk m) (R : Nat) (w : World) (tv : Value) (nds : List Nd) (d dp m : Nat) (hr : RdAt X R w tv (t :: l) nds d dp m) (hf : Fit (t :: l) nds d dp m) :
    Calls Tryz.prog 220 #[.pointer (some ⟨R, 0, none⟩)] w (RdPost X R nds d dp m w (wordO t l)) := by
  have HH := hide h
  have HK := hide hk
  clear h
  have hf' := hf
  have HF := hide hf'
  have hlen : (t :: l).length ≤ 3000 := by have := hf.nodes; omega
  have hRlt := hr.lt
  obtain ⟨MX, hMX⟩ : ∃ MX, max dp d = MX := ⟨_, rfl⟩
  have HMX := hide hMX
  obtain ⟨k3, f3⟩ := hr.drew.cell3
  obtain ⟨k2, f2⟩ := hr.drew.cell2
  have hmx : max (dp : Int) (d : Int) = (MX : Int) := by omega
  have HR := hide ((hr.deepest MX).drew)
  have FA : Hid (Frm R w (w.setCell ⟨R, 3, none⟩ (.int .i64 (MX : Int))).drew) := hide (((Frm.refl R w).set 3 _).trans (Frm.of (Below.refl _ _).drew))
  clear hr hf hf' hMX
  go_enter Tryz.func220, Tryz.ntmps220
  go_upto_region 1 with fail
  go_region
  clear k3 f3 k2 f2 hmx
  go_wp2_with fail
  generalize hW : (w.setCell ⟨R, 3, none⟩ (.int .i64 (MX : Int))).drew = W0 at HR FA ⊢
  clear hW
  have HAH := hide (ahead_val R W0 tv (t :: l) nds d _ m (unhide HR))
  rw [show headT (t :: l) = t from rfl] at HAH
  refine (unhide HAH).mono ?_
  rintro e wa ⟨rfl, ba⟩
  have HRA := hide (((unhide HR).nx ba).nx (below_al wa (.cells t.cells tkT)))
  replace FA := hide (((unhide FA).trans (Frm.of ba)).trans (Frm.of (below_al wa (.cells t.cells tkT))))
  have st := tk_new wa t
  have k0 := tk_kind wa t
  have zT := tk_size t
  rw [hk] at k0
  have FI : Hid (Fit (t :: l) nds d MX m) := hide (by have h := unhide HF; exact ⟨h.text, h.nodes, h.deep, by have := h.dp; have := h.deep; have := unhide HMX; omega, h.most⟩)
  clear ba HAH HR
  have HC := hide (word_ok t l (unhide HK) (unhide HH) R _ tv nds d MX m (unhide HRA) (unhide FI) (by have := unhide HMX; omega))
  obtain ⟨O, hO⟩ : ∃ O, wordO t l = O := ⟨_, rfl⟩
  rw [hO] at HC
  have HO := hide hO
  clear hk HRA HH hO
  cases O with
  | none =>
    go_wp2_with fail
    refine (unhide HC).mono ?_
    intro e wb hp
    have HPP := hide (post_dp (unhide HMX) (unhide FA) hp)
    obtain ⟨rfl, _⟩ := hp
    go_wp2
    refine ⟨rfl, ?_⟩
    rw [unhide HO]
    exact unhide HPP
  | some p =>
    obtain ⟨s, r⟩ := p
    go_wp2_with fail
    refine (unhide HC).mono ?_
    intro e wb hp
    have HPP := hide (post_dp (unhide HMX) (unhide FA) hp)
    obtain ⟨rfl, _⟩ := hp
    go_wp2
    refine bodyPost_ret (v := .int .i64 ((nds.length + s.size - 1 : Nat) : Int)) (results_t1 rfl _ _ _ rfl) rfl ?_
    rw [unhide HO]
    exact unhide HPP
set_option maxRecDepth 100000 in
set_option maxHeartbeats 4000000 in
theorem op_par (t : Tk) (l : List Tk) (hk : t.kind = 6) (h : RdOk 60 [] (rd (.chain 1) l) l) (R : Nat) (w : World) (tv : Value) (nds : List Nd) (d dp m : Nat) (hr : RdAt X R w tv (t :: l) nds d dp m) (hf : Fit (t :: l) nds d dp m) :
    Calls Tryz.prog 220 #[.pointer (some ⟨R, 0, none⟩)] w (RdPost X R nds d dp m w (closeS (rd (.chain 1) l) (.par t))) := by
  have HH := hide h
  have HK := hide hk
  clear h
  have hf' := hf
  have HF := hide hf'
  have hlen : (t :: l).length ≤ 3000 := by have := hf.nodes; omega
  have hRlt := hr.lt
  obtain ⟨MX, hMX⟩ : ∃ MX, max dp d = MX := ⟨_, rfl⟩
  have HMX := hide hMX
  obtain ⟨k3, f3⟩ := hr.drew.cell3
  obtain ⟨k2, f2⟩ := hr.drew.cell2
  have hmx : max (dp : Int) (d : Int) = (MX : Int) := by omega
  have HR := hide ((hr.deepest MX).drew)
  have FA : Hid (Frm R w (w.setCell ⟨R, 3, none⟩ (.int .i64 (MX : Int))).drew) := hide (((Frm.refl R w).set 3 _).trans (Frm.of (Below.refl _ _).drew))
  clear hr hf hf' hMX
  go_enter Tryz.func220, Tryz.ntmps220
  go_upto_region 1 with fail
  go_region
  clear k3 f3 k2 f2 hmx
  go_wp2_with fail
  generalize hW : (w.setCell ⟨R, 3, none⟩ (.int .i64 (MX : Int))).drew = W0 at HR FA ⊢
  clear hW
  have HAH := hide (ahead_val R W0 tv (t :: l) nds d _ m (unhide HR))
  rw [show headT (t :: l) = t from rfl] at HAH
  refine (unhide HAH).mono ?_
  rintro e wa ⟨rfl, ba⟩
  have HRA := hide (((unhide HR).nx ba).nx (below_al wa (.cells t.cells tkT)))
  replace FA := hide (((unhide FA).trans (Frm.of ba)).trans (Frm.of (below_al wa (.cells t.cells tkT))))
  have st := tk_new wa t
  have k0 := tk_kind wa t
  have zT := tk_size t
  rw [hk] at k0
  have FI : Hid (Fit (t :: l) nds d MX m) := hide (by have h := unhide HF; exact ⟨h.text, h.nodes, h.deep, by have := h.dp; have := h.deep; have := unhide HMX; omega, h.most⟩)
  clear ba HAH HR
  have HC := hide (enc_int t l (unhide HK) (unhide HH) R _ tv nds d MX m (unhide HRA) (unhide FI))
  obtain ⟨O, hO⟩ : ∃ O, closeS (rd (.chain 1) l) (.par t) = O := ⟨_, rfl⟩
  rw [hO] at HC
  have HO := hide hO
  clear hk HRA HH hO
  cases O with
  | none =>
    go_wp2_with fail
    refine (unhide HC).mono ?_
    intro e wb hp
    have HPP := hide (post_dp (unhide HMX) (unhide FA) hp)
    obtain ⟨rfl, _⟩ := hp
    go_wp2
    refine ⟨rfl, ?_⟩
    rw [unhide HO]
    exact unhide HPP
  | some p =>
    obtain ⟨s, r⟩ := p
    go_wp2_with fail
    refine (unhide HC).mono ?_
    intro e wb hp
    have HPP := hide (post_dp (unhide HMX) (unhide FA) hp)
    obtain ⟨rfl, _⟩ := hp
    go_wp2
    refine bodyPost_ret (v := .int .i64 ((nds.length + s.size - 1 : Nat) : Int)) (results_t1 rfl _ _ _ rfl) rfl ?_
    rw [unhide HO]
    exact unhide HPP
end Go.Proofs.YtloamahbghjjgaaGreatDoor
