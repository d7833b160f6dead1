/- The walk of word. -/
import Derived.BigQuiet
import Derived.BigRegion
import Derived.Deep.AppendLies
import Derived.Deep.CutBlock
import Derived.Deep.CutRange
import Derived.Deep.DeepFit
import Derived.Deep.MidRow
import Derived.Deep.QuietTactic
import Derived.Deep.RegionHeld3
import Derived.Deep.RegionLaw
import Derived.Deep.WholeRow
import Derived.Defers
import Derived.Great.BuildSlice
import Derived.Laws.Bits64b
import Derived.Laws.CopyOwn
import Derived.Laws.IdiomStrings
import Derived.Laws.OwnMore
import Derived.Laws.Rows
import Derived.Laws.StructEq
import Derived.Laws.Tables
import Derived.Lib.Atoi
import Derived.Lib.AtoiErrMem
import Derived.Lib.BitFns
import Derived.Lib.CutLaws
import Derived.Lib.IndexMore
import Derived.Lib.ItoaMem
import Derived.Lib.ItoaNum
import Derived.Lib.Join
import Derived.Lib.Replace
import Derived.Lib.Walk
import Derived.Recover
import Derived.Shelf.Bits.Mul64
import Derived.Shelf.LaysM
import Derived.Shelf.Small.Bits
import Derived.Shelf.Small.Strs
import Derived.Shelf.Small.Utf8
import Derived.Shelf.Small.Wraps
import Derived.Shelf.Strconv.Atoi
import Derived.Shelf.Strconv.Itoa0
import Derived.Shelf.Strconv.Itoa1
import Derived.Shelf.Strconv.Itoa2
import Derived.Shelf.Strconv.Itoa3
import Derived.Shelf.Strings.AsciiSet
import Derived.Shelf.Strings.Builder1
import Derived.Shelf.Strings.Builder2
import Derived.Shelf.Strings.Count
import Derived.Shelf.Strings.Cut
import Derived.Shelf.Strings.OnBuilder
import Derived.Shelf.Strings.Prefix
import Derived.Shelf.Strings.Replace
import Derived.Shelf.Strings.Runes
import Derived.Shelf.Strings.Search1
import Derived.Shelf.Strings.Search2
import Derived.Shelf.Strings.Search3
import Derived.Shelf.Strings.Shaped
import Derived.Shelf.Strings.Split
import Derived.Shelf.Strings.SplitShaped
import Derived.Shelf.Strings.Trim
import Derived.Shelf.Unicode.DecodeSlow
import Derived.Test.YtloamahbghjjgaaGreatDoorProg
import Derived.Test.YtloamahbghjjgaaGreatDoorRows
import Derived.WalkKit
import Derived.WalkLawsBesides
import Derived.WalkSmall
import Derived.WalkSpells
import Derived.Test.YtloamahbghjjgaaGreatDoorZgAA
import Derived.Test.YtloamahbghjjgaaGreatDoorZgAB
import Derived.Test.YtloamahbghjjgaaGreatDoorZgAC
import Derived.Test.YtloamahbghjjgaaGreatDoorZgAD
import Derived.Test.YtloamahbghjjgaaGreatDoorZgAE
import Derived.Test.YtloamahbghjjgaaGreatDoorZgAF
import Derived.Test.YtloamahbghjjgaaGreatDoorZgAG
import Derived.Test.YtloamahbghjjgaaGreatDoorZgAH
import Derived.Test.YtloamahbghjjgaaGreatDoorZgAI
import Derived.Test.YtloamahbghjjgaaGreatDoorZgAJ
import Derived.Test.YtloamahbghjjgaaGreatDoorZgAK
import Derived.Test.YtloamahbghjjgaaGreatDoorZgAL
import Derived.Test.YtloamahbghjjgaaGreatDoorZgAM
import Derived.Test.YtloamahbghjjgaaGreatDoorZgAN
import Derived.Test.YtloamahbghjjgaaGreatDoorZgAO
import Derived.Test.YtloamahbghjjgaaGreatDoorZgAP
import Derived.Test.YtloamahbghjjgaaGreatDoorZgAQ
namespace Go.Proofs.YtloamahbghjjgaaGreatDoor
open Go.RowKit
variable {X : Nat → Prop}

def wordO (t : Tk) (l : List Tk) : Rs :=
  match l with
  | [] => some (.atom t, [])
  | o :: m => if o.kind = 6 then closeS (rd .args m) (.call t o) else some (.atom t, o :: m)
theorem word_no {t : Tk} {l : List Tk} (h : (headT l).kind ≠ 6) : wordO t l = some (.atom t, l) := by
  cases l with
  | nil => rfl
  | cons o m =>
    have h : o.kind ≠ 6 := h
    simp only [wordO]; rw [if_neg h]
theorem close_none {O : Rs} {mk : Syn → Tk → Syn} (h : closeS O (fun s _ => s) = none) : closeS O mk = none := by
  rcases O with _ | ⟨s, _ | ⟨c, r⟩⟩
  · rfl
  · rfl
  · simp only [closeS] at h ⊢
    by_cases hk : c.kind = 7
    · rw [if_pos hk] at h; cases h
    · rw [if_neg hk]
theorem close_some {O : Rs} {mk : Syn → Tk → Syn} {s : Syn} {r : List Tk} (h : closeS O (fun s _ => s) = some (s, r)) : ∃ c, O = some (s, c :: r) ∧ closeS O mk = some (mk s c, r) := by
  rcases O with _ | ⟨s', _ | ⟨c, r'⟩⟩
  · cases h
  · cases h
  · simp only [closeS] at h ⊢
    by_cases hk : c.kind = 7
    · rw [if_pos hk] at h
      cases h
      exact ⟨c, rfl, by rw [if_pos hk]⟩
    · rw [if_neg hk] at h; cases h
theorem kids_form {w : World} {B : Nat} {kv : Value} {ks : List Int} (h : KidsAt w B kv ks) : ∃ a cap, kv = .slice a ks.length cap := by
  rcases h.2 with ⟨rfl, h0⟩ | ⟨g, cap, cur, rfl, _⟩
  · exact ⟨none, 0, by rw [h0]⟩
  · exact ⟨_, cap, rfl⟩
set_option maxRecDepth 100000 in
set_option maxHeartbeats 4000000 in
theorem word_lit (t : Tk) (l : List Tk) (ht : t.kind = 4) (h6 : (headT l).kind ≠ 6) (R : Nat) (w : World) (tv : Value) (nds : List Nd) (d dp m : Nat) (hr : RdAt X R w tv (t :: l) nds d dp m) (hf : Fit (t :: l) nds d dp m) (hdp : d ≤ dp) :
    Calls Tryz.prog 245 #[.pointer (some ⟨R, 0, none⟩)] w (RdPost X R nds d dp m w (some (.atom t, l))) := by
  have hlen : nds.length + l.length ≤ 3000 := by have := hf.nodes; rw [List.length_cons] at this; omega
  have HTK := hide (take_ok R w tv t l _ d _ _ hr (by omega))
  rw [ht] at HTK
  have HLI := hide (fun w => literal_val t w (by have := hf.text t (by simp); omega))
  have zT := tk_size t
  clear hr hf
  have hn : atomN t = ⟨0, emp, litV t, zeroF, []⟩ := by
    unfold atomN; rw [if_neg (by omega)]
  have HN := hide hn
  clear hn
  go_enter Tryz.func245, Tryz.ntmps245
  go_wp2_with fail
  refine (unhide HTK).mono ?_
  rintro e wa ⟨rfl, ra, fa⟩
  have HRA := hide (ra.nx (below_al wa (.cells t.cells tkT)))
  have FA := hide (fa.trans (Frm.of (below_al wa (.cells t.cells tkT))))
  have st := tk_new wa t
  have CT := hide (cells_new wa tkT t.cells)
  have HAH := hide (ahead_val R _ tv l _ d _ _ (ra.nx (below_al wa (.cells t.cells tkT))))
  have fl0 := tk_fld0 (headT l)
  have hne : ((headT l).kind != 6) = true := by simpa using h6
  clear ra fa HTK
  go_wp2_with fail
  clear st
  generalize hW : wa.alloc (.cells t.cells tkT) = W1 at HRA FA CT HAH ⊢
  obtain ⟨N1, hN1⟩ : ∃ N1, wa.heap.size = N1 := ⟨_, rfl⟩
  rw [hN1] at CT ⊢
  clear hW hN1
  generalize headT l = T at HAH fl0 hne
  clear h6
  refine (unhide HAH).mono ?_
  rintro e wb ⟨rfl, bb⟩
  have HRB := hide ((unhide HRA).nx bb)
  replace FA := hide ((unhide FA).trans (Frm.of bb))
  have CB := hide (range_cells (cells_nx (unhide CT) bb))
  clear bb HRA CT HAH
  go_wp2_with (refine wpList_load_mid rfl 116 _ rfl N1 0 rfl t.cells.toList _ (unhide CB) Tryz.underlying116 rfl infoTk ?_)
  refine (unhide HLI _).mono ?_
  rintro e wc ⟨rfl, bc⟩
  have HRC := hide ((unhide HRB).nx bc)
  replace FA := hide ((unhide FA).trans (Frm.of bc))
  clear bc HRB CB HLI
  have HP := hide (put_val R _ tv l _ d _ _ (atomN t) (.slice none 0 0) (unhide HRC) (by rw [unhide HN]; exact kidsX_nil _ _) (by omega))
  rw [unhide HN] at HP
  unfold Nd.cells zeroF zeroR at HP
  simp only [] at HP
  clear HRC
  obtain ⟨V, hV⟩ : ∃ V, litV t = V := ⟨_, rfl⟩
  have HV := hide hV
  rw [hV] at HP ⊢
  clear hV
  obtain ⟨V0, V1, V2, V3, V4⟩ := V
  unfold Vl.cells
  simp only [] at HP ⊢
  go_wp2_with fail
  refine (unhide HP).mono ?_
  rintro e we ⟨rfl, tve, re, fe⟩
  have HRE := hide re
  replace FA := hide ((unhide FA).trans fe)
  clear re fe HP
  go_wp2
  refine bodyPost_ret (v := .int .i64 (nds.length : Int)) (results_t1 rfl _ _ _ rfl) rfl ?_
  unfold RdPost
  refine ⟨by simp [Syn.size], unhide FA, tve, (unhide HRE).cast ?_ (by simp only [Syn.nest]; omega) (by simp [Syn.most])⟩
  simp only [Syn.emit]
  rw [unhide HN, unhide HV]
  rfl
set_option maxRecDepth 100000 in
set_option maxHeartbeats 4000000 in
theorem word_call (t o : Tk) (l : List Tk) (ht : t.kind = 4) (ho : o.kind = 6) (h : ArOk l) (R : Nat) (w : World) (tv : Value) (nds : List Nd) (d dp m : Nat) (hr : RdAt X R w tv (t :: o :: l) nds d dp m) (hf : Fit (t :: o :: l) nds d dp m) (hdp : d ≤ dp) :
    Calls Tryz.prog 245 #[.pointer (some ⟨R, 0, none⟩)] w (RdPost X R nds d dp m w (closeS (rd .args l) (.call t o))) := by
  have hlen : nds.length + l.length ≤ 3000 := by have := hf.nodes; simp only [List.length_cons] at this; omega
  have hR := hr.lt
  have HTK := hide (take_ok R w tv t (o :: l) _ d _ _ hr (by rw [List.length_cons]; omega))
  rw [ht] at HTK
  have HEN := hide (fun w2 (h1 : RdAt X R w2 tv (o :: l) nds d dp m) => enc_args o l ho h R w2 tv nds d dp m h1 (fit_tail hf) hdp)
  have HF := hide hf
  have zT := tk_size t
  obtain ⟨O, hO⟩ : ∃ O, rd .args l = O := ⟨_, rfl⟩
  have HQ := hide hO
  rw [hO] at HEN ⊢
  clear hr hf h hO
  go_enter Tryz.func245, Tryz.ntmps245
  go_wp2_with fail
  refine (unhide HTK).mono ?_
  rintro e wa ⟨rfl, ra, fa⟩
  have HRA := hide (ra.nx (below_al wa (.cells t.cells tkT)))
  have FA := hide (fa.trans (Frm.of (below_al wa (.cells t.cells tkT))))
  have st := tk_new wa t
  have CT := hide (cells_new wa tkT t.cells)
  have HAH := hide (ahead_val R _ tv (o :: l) _ d _ _ (ra.nx (below_al wa (.cells t.cells tkT))))
  rw [show headT (o :: l) = o from rfl] at HAH
  have fl0 := tk_fld0 o
  have hNR : R < wa.heap.size := Nat.lt_of_lt_of_le hR fa.size
  rw [ho] at fl0
  clear ra fa HTK
  go_wp2_with fail
  clear st
  generalize hW : wa.alloc (.cells t.cells tkT) = W1 at HRA FA CT HAH ⊢
  obtain ⟨N1, hN1⟩ : ∃ N1, wa.heap.size = N1 := ⟨_, rfl⟩
  rw [hN1] at CT hNR ⊢
  clear hW hN1
  refine (unhide HAH).mono ?_
  rintro e wb ⟨rfl, bb⟩
  have HRB := hide ((unhide HRA).nx bb)
  replace FA := hide ((unhide FA).trans (Frm.of bb))
  replace CT := hide (cells_nx (unhide CT) bb)
  clear bb HRA HAH
  have HE := hide (unhide HEN wb (unhide HRB))
  clear HEN HRB
  unfold EnPost at HE
  cases hq : closeS O (fun s _ => s) with
  | none =>
    have HQ2 := hide hq
    rw [hq] at HE
    simp only [] at HE
    clear hq
    go_wp2_with fail
    refine (unhide HE).mono ?_
    rintro e wd ⟨rfl, fd⟩
    have FB := hide ((unhide FA).trans fd)
    clear fd
    go_wp2
    refine ⟨rfl, ?_⟩
    rw [close_none (unhide HQ2)]
    exact ⟨rfl, unhide FB⟩
  | some p =>
    obtain ⟨s, r⟩ := p
    obtain ⟨c, hOc, hcl⟩ := close_some (mk := .call t o) hq
    have HCL := hide hcl
    rw [hq] at HE
    simp only [] at HE
    have HW := hide hOc
    clear hq hcl hOc
    go_wp2_with fail
    refine (unhide HE).mono ?_
    rintro e wd ⟨kv, rfl, kd, fd, tvd, rd'⟩
    obtain ⟨ka, kcap, rfl⟩ := kids_form kd.1
    have hkl : ((s.kidsL nds.length).map fun k : Nat => (k : Int)).length = (s.kidsL 0).length := by rw [List.length_map, kids_len]
    obtain ⟨nk, hnk⟩ : ∃ nk, ((s.kidsL nds.length).map fun k : Nat => (k : Int)).length = nk := ⟨_, rfl⟩
    rw [hnk] at kd hkl ⊢
    obtain ⟨MX, hMX⟩ : ∃ MX, max (max m s.most) nk = MX := ⟨_, rfl⟩
    have HMX := hide hMX
    clear hMX
    obtain ⟨k4, f4⟩ := rd'.cell4
    have CT2 := fd.cells (unhide CT) (show N1 ≠ R by omega) (by decide)
    have HRD := hide rd'
    have KD := hide (kids_set (i := 4) (v := .int .i64 (MX : Int)) kd.1)
    have KX := hide kd.2
    replace FA := hide (((unhide FA).trans fd).set 4 (.int .i64 (MX : Int)))
    have HKL := hide hkl
    have hx1 : (wd.setCell ⟨R, 4, none⟩ (.int .i64 (MX : Int))).cell? ⟨N1, 1, none⟩ = some (.string t.text) := cells_c (cells_set_far CT2 (show N1 ≠ R by omega) 4 (.int .i64 (MX : Int))) 1 _ rfl
    clear rd' fd kd hkl hnk CT CT2 HE
    have HR4 := hide ((unhide HRD).mostly MX)
    clear HRD
    have hcnt : (nds ++ s.emit nds.length).length ≤ 10000 := by
      have h1 := (size_toks s).1
      have h2 := rd_toks ((unhide HQ).trans (unhide HW))
      have h3 := congrArg List.length h2
      simp only [Md.left, List.nil_append, List.length_append, List.length_cons, emit_len] at h3 ⊢
      omega
    have HCT := hide hcnt
    have hmx : max ((max m s.most : Nat) : Int) (nk : Int) = (MX : Int) := by have := unhide HMX; omega
    clear hcnt
    go_upto_region 6 with fail
    generalize hW : wd.setCell ⟨R, 4, none⟩ (.int .i64 (MX : Int)) = W4 at KD FA hx1 HR4 ⊢
    clear hW k4 f4 hmx
    have HP := hide (put_val R W4 tvd r _ d _ _ (callN t (s.kidsL nds.length)) (.slice ka nk kcap) (unhide HR4) ⟨unhide KD, unhide KX⟩ (unhide HCT))
    unfold callN Nd.cells zVl zeroF zeroR at HP
    simp only [] at HP
    go_wp2_with fail
    refine (unhide HP).mono ?_
    rintro e we ⟨rfl, tve, re, fe⟩
    have HRE := hide re
    replace FA := hide ((unhide FA).trans fe)
    clear re fe HP HR4 KD KX
    go_wp2
    refine bodyPost_ret (v := .int .i64 (((nds ++ s.emit nds.length).length : Nat) : Int)) (results_t1 rfl _ _ _ (by simp)) rfl ?_
    rw [unhide HCL]
    unfold RdPost
    refine ⟨by simp [Syn.size, emit_len], unhide FA, tve, (unhide HRE).cast ?_ (by simp only [Syn.nest]) ?_⟩
    · simp only [Syn.emit]
      rw [List.append_assoc]; rfl
    · simp only [Syn.most]
      have := unhide HMX
      have := unhide HKL
      omega
end Go.Proofs.YtloamahbghjjgaaGreatDoor

namespace Go.Proofs.YtloamahbghjjgaaGreatDoor
open Go.RowKit
variable {X : Nat → Prop}

theorem RdAt.drew {R : Nat} {w : World} {tv : Value} {l : List Tk} {nds : List Nd} {d dp m : Nat} (h : RdAt X R w tv l nds d dp m) : RdAt X R w.drew tv l nds d dp m := h.nx (Below.refl _ _).drew
theorem word_ok (t : Tk) (l : List Tk) (ht : t.kind = 4) (h : ∀ o m, l = o :: m → ArOk m) (R : Nat) (w : World) (tv : Value) (nds : List Nd) (d dp m : Nat) (hr : RdAt X R w tv (t :: l) nds d dp m) (hf : Fit (t :: l) nds d dp m) (hdp : d ≤ dp) :
    Calls Tryz.prog 245 #[.pointer (some ⟨R, 0, none⟩)] w (RdPost X R nds d dp m w (wordO t l)) := by
  by_cases h6 : (headT l).kind = 6
  · cases l with
    | nil => exact absurd h6 (by decide)
    | cons o q =>
      have h6 : o.kind = 6 := h6
      have := word_call t o q ht h6 (h o q rfl) R w tv nds d dp m hr hf hdp
      simp only [wordO]
      rw [if_pos h6]
      exact this
  · rw [word_no h6]
    exact word_lit t l ht h6 R w tv nds d dp m hr hf hdp
theorem post_dp {R : Nat} {nds : List Nd} {d dp MX m : Nat} {w0 w : World} {o : Rs} {e : Ending} {w' : World} (hM : max dp d = MX) (hf : Frm R w0 w) (h : RdPost X R nds d MX m w o e w') : RdPost X R nds d dp m w0 o e w' := by
  unfold RdPost at h ⊢
  cases o with
  | none => exact ⟨h.1, hf.trans h.2⟩
  | some p =>
    obtain ⟨h1, h2, tv, h3⟩ := h
    exact ⟨h1, hf.trans h2, tv, h3.cast rfl (by omega) rfl⟩
set_option maxRecDepth 100000 in
set_option maxHeartbeats 4000000 in
theorem op_bad (l : List Tk) (hb : ∀ k : Int, k ∈ [0, 1, 2, 3, 4, 6] → (headT l).kind ≠ k) (R : Nat) (w : World) (tv : Value) (nds : List Nd) (d dp m : Nat) (hr : RdAt X R w tv l nds d dp m) (hf : Fit l nds d dp m) :
    Calls Tryz.prog 220 #[.pointer (some ⟨R, 0, none⟩)] w (RdPost X R nds d dp m w none) := by
  have n0 := hb 0 (by simp)
  have n1 := hb 1 (by simp)
  have n2 := hb 2 (by simp)
  have n3 := hb 3 (by simp)
  have n4 := hb 4 (by simp)
  have n6 := hb 6 (by simp)
  clear hb
  have hf' := hf
  have HF := hide hf'
  have hlen : l.length ≤ 3000 := by have := hf.nodes; omega
  have hRlt := hr.lt
  obtain ⟨MX, hMX⟩ : ∃ MX, max dp d = MX := ⟨_, rfl⟩
  have HMX := hide hMX
  obtain ⟨k3, f3⟩ := hr.drew.cell3
  obtain ⟨k2, f2⟩ := hr.drew.cell2
  have hmx : max (dp : Int) (d : Int) = (MX : Int) := by omega
  have HR := hide ((hr.deepest MX).drew)
  have FA : Hid (Frm R w (w.setCell ⟨R, 3, none⟩ (.int .i64 (MX : Int))).drew) := hide (((Frm.refl R w).set 3 _).trans (Frm.of (Below.refl _ _).drew))
  clear hr hf hf' hMX
  go_enter Tryz.func220, Tryz.ntmps220
  go_upto_region 1 with fail
  go_region
  clear k3 f3 k2 f2 hmx
  go_wp2_with fail
  generalize hW : (w.setCell ⟨R, 3, none⟩ (.int .i64 (MX : Int))).drew = W0 at HR FA ⊢
  clear hW
  have HAH := hide (ahead_val R W0 tv l nds d _ m (unhide HR))
  obtain ⟨t, ht⟩ : ∃ t, headT l = t := ⟨_, rfl⟩
  rw [ht] at HAH n0 n1 n2 n3 n4 n6
  clear ht
  refine (unhide HAH).mono ?_
  rintro e wa ⟨rfl, ba⟩
  have HRA := hide (((unhide HR).nx ba).nx (below_al wa (.cells t.cells tkT)))
  replace FA := hide (((unhide FA).trans (Frm.of ba)).trans (Frm.of (below_al wa (.cells t.cells tkT))))
  have st := tk_new wa t
  have k0 := tk_kind wa t
  have zT := tk_size t
  have e0 : (t.kind == 0) = false := by simpa using n0
  have e1 : (t.kind == 1) = false := by simpa using n1
  have e2 : (t.kind == 2) = false := by simpa using n2
  have e3 : (t.kind == 3) = false := by simpa using n3
  have e4 : (t.kind == 4) = false := by simpa using n4
  have e6 : (t.kind == 6) = false := by simpa using n6
  clear n0 n1 n2 n3 n4 n6
  have FI : Hid (Fit l nds d MX m) := hide (by have h := unhide HF; exact ⟨h.text, h.nodes, h.deep, by have := h.dp; have := h.deep; have := unhide HMX; omega, h.most⟩)
  clear ba HAH HR
  go_wp2
  exact ⟨rfl, rfl, unhide FA⟩
set_option maxRecDepth 100000 in
set_option maxHeartbeats 4000000 in
theorem op_lit0 (t : Tk) (l : List Tk) (hk : t.kind = 0) (R : Nat) (w : World) (tv : Value) (nds : List Nd) (d dp m : Nat) (hr : RdAt X R w tv (t :: l) nds d dp m) (hf : Fit (t :: l) nds d dp m) :
    Calls Tryz.prog 220 #[.pointer (some ⟨R, 0, none⟩)] w (RdPost X R nds d dp m w (some (.atom t, l))) := by
  have hn : atomN t = ⟨0, emp, litV t, zeroF, []⟩ := by
    unfold atomN; rw [if_neg (by omega)]
  have HN := hide hn
  clear hn
  have hf' := hf
  have HF := hide hf'
  have hlen : (t :: l).length ≤ 3000 := by have := hf.nodes; omega
  have hRlt := hr.lt
  obtain ⟨MX, hMX⟩ : ∃ MX, max dp d = MX := ⟨_, rfl⟩
  have HMX := hide hMX
  obtain ⟨k3, f3⟩ := hr.drew.cell3
  obtain ⟨k2, f2⟩ := hr.drew.cell2
  have hmx : max (dp : Int) (d : Int) = (MX : Int) := by omega
  have HR := hide ((hr.deepest MX).drew)
  have FA : Hid (Frm R w (w.setCell ⟨R, 3, none⟩ (.int .i64 (MX : Int))).drew) := hide (((Frm.refl R w).set 3 _).trans (Frm.of (Below.refl _ _).drew))
  clear hr hf hf' hMX
  go_enter Tryz.func220, Tryz.ntmps220
  go_upto_region 1 with fail
  go_region
  clear k3 f3 k2 f2 hmx
  go_wp2_with fail
  generalize hW : (w.setCell ⟨R, 3, none⟩ (.int .i64 (MX : Int))).drew = W0 at HR FA ⊢
  clear hW
  have HAH := hide (ahead_val R W0 tv (t :: l) nds d _ m (unhide HR))
  rw [show headT (t :: l) = t from rfl] at HAH
  refine (unhide HAH).mono ?_
  rintro e wa ⟨rfl, ba⟩
  have HRA := hide (((unhide HR).nx ba).nx (below_al wa (.cells t.cells tkT)))
  replace FA := hide (((unhide FA).trans (Frm.of ba)).trans (Frm.of (below_al wa (.cells t.cells tkT))))
  have st := tk_new wa t
  have k0 := tk_kind wa t
  have zT := tk_size t
  rw [hk] at k0
  have FI : Hid (Fit (t :: l) nds d MX m) := hide (by have h := unhide HF; exact ⟨h.text, h.nodes, h.deep, by have := h.dp; have := h.deep; have := unhide HMX; omega, h.most⟩)
  clear ba HAH HR
  have HLI := hide (fun w => literal_val t w (by have := (unhide FI).text t (by simp); omega))
  have HTK := hide (take_ok R _ tv t l nds d _ m (unhide HRA) (by rw [List.length_cons] at hlen; omega))
  rw [hk] at HTK
  clear hk HRA
  go_wp2_with fail
  refine (unhide HTK).mono ?_
  rintro e wb ⟨rfl, rb, fb⟩
  have HRB := hide rb
  replace FA := hide ((unhide FA).trans fb)
  clear rb fb HTK
  go_wp2_with fail
  refine (unhide HLI _).mono ?_
  rintro e wc ⟨rfl, bc⟩
  have HRC := hide ((unhide HRB).nx bc)
  replace FA := hide ((unhide FA).trans (Frm.of bc))
  clear bc HRB HLI
  have HP := hide (put_val R _ tv l _ d _ _ (atomN t) (.slice none 0 0) (unhide HRC) (by rw [unhide HN]; exact kidsX_nil _ _) (by have := (unhide FI).nodes; omega))
  rw [unhide HN] at HP
  unfold Nd.cells zeroF zeroR at HP
  simp only [] at HP
  clear HRC
  obtain ⟨V, hV⟩ : ∃ V, litV t = V := ⟨_, rfl⟩
  have HV := hide hV
  rw [hV] at HP ⊢
  clear hV
  obtain ⟨V0, V1, V2, V3, V4⟩ := V
  unfold Vl.cells
  simp only [] at HP ⊢
  go_wp2_with fail
  refine (unhide HP).mono ?_
  rintro e we ⟨rfl, tve, re, fe⟩
  have HRE := hide re
  replace FA := hide ((unhide FA).trans fe)
  clear re fe HP
  go_wp2
  refine bodyPost_ret (v := .int .i64 (nds.length : Int)) (results_t1 rfl _ _ _ rfl) rfl ?_
  unfold RdPost
  refine ⟨by simp [Syn.size], unhide FA, tve, (unhide HRE).cast ?_ (by have := unhide HMX; simp only [Syn.nest]; omega) (by simp [Syn.most])⟩
  simp only [Syn.emit]
  rw [unhide HN, unhide HV]
  rfl
set_option maxRecDepth 100000 in
set_option maxHeartbeats 4000000 in
theorem op_lit1 (t : Tk) (l : List Tk) (hk : t.kind = 1) (R : Nat) (w : World) (tv : Value) (nds : List Nd) (d dp m : Nat) (hr : RdAt X R w tv (t :: l) nds d dp m) (hf : Fit (t :: l) nds d dp m) :
    Calls Tryz.prog 220 #[.pointer (some ⟨R, 0, none⟩)] w (RdPost X R nds d dp m w (some (.atom t, l))) := by
  have hn : atomN t = ⟨0, emp, litV t, zeroF, []⟩ := by
    unfold atomN; rw [if_neg (by omega)]
  have HN := hide hn
  clear hn
  have hf' := hf
  have HF := hide hf'
  have hlen : (t :: l).length ≤ 3000 := by have := hf.nodes; omega
  have hRlt := hr.lt
  obtain ⟨MX, hMX⟩ : ∃ MX, max dp d = MX := ⟨_, rfl⟩
  have HMX := hide hMX
  obtain ⟨k3, f3⟩ := hr.drew.cell3
  obtain ⟨k2, f2⟩ := hr.drew.cell2
  have hmx : max (dp : Int) (d : Int) = (MX : Int) := by omega
  have HR := hide ((hr.deepest MX).drew)
  have FA : Hid (Frm R w (w.setCell ⟨R, 3, none⟩ (.int .i64 (MX : Int))).drew) := hide (((Frm.refl R w).set 3 _).trans (Frm.of (Below.refl _ _).drew))
  clear hr hf hf' hMX
  go_enter Tryz.func220, Tryz.ntmps220
  go_upto_region 1 with fail
  go_region
  clear k3 f3 k2 f2 hmx
  go_wp2_with fail
  generalize hW : (w.setCell ⟨R, 3, none⟩ (.int .i64 (MX : Int))).drew = W0 at HR FA ⊢
  clear hW
  have HAH := hide (ahead_val R W0 tv (t :: l) nds d _ m (unhide HR))
  rw [show headT (t :: l) = t from rfl] at HAH
  refine (unhide HAH).mono ?_
  rintro e wa ⟨rfl, ba⟩
  have HRA := hide (((unhide HR).nx ba).nx (below_al wa (.cells t.cells tkT)))
  replace FA := hide (((unhide FA).trans (Frm.of ba)).trans (Frm.of (below_al wa (.cells t.cells tkT))))
  have st := tk_new wa t
  have k0 := tk_kind wa t
  have zT := tk_size t
  rw [hk] at k0
  have FI : Hid (Fit (t :: l) nds d MX m) := hide (by have h := unhide HF; exact ⟨h.text, h.nodes, h.deep, by have := h.dp; have := h.deep; have := unhide HMX; omega, h.most⟩)
  clear ba HAH HR
  have HLI := hide (fun w => literal_val t w (by have := (unhide FI).text t (by simp); omega))
  have HTK := hide (take_ok R _ tv t l nds d _ m (unhide HRA) (by rw [List.length_cons] at hlen; omega))
  rw [hk] at HTK
  clear hk HRA
  go_wp2_with fail
  refine (unhide HTK).mono ?_
  rintro e wb ⟨rfl, rb, fb⟩
  have HRB := hide rb
  replace FA := hide ((unhide FA).trans fb)
  clear rb fb HTK
  go_wp2_with fail
  refine (unhide HLI _).mono ?_
  rintro e wc ⟨rfl, bc⟩
  have HRC := hide ((unhide HRB).nx bc)
  replace FA := hide ((unhide FA).trans (Frm.of bc))
  clear bc HRB HLI
  have HP := hide (put_val R _ tv l _ d _ _ (atomN t) (.slice none 0 0) (unhide HRC) (by rw [unhide HN]; exact kidsX_nil _ _) (by have := (unhide FI).nodes; omega))
  rw [unhide HN] at HP
  unfold Nd.cells zeroF zeroR at HP
  simp only [] at HP
  clear HRC
  obtain ⟨V, hV⟩ : ∃ V, litV t = V := ⟨_, rfl⟩
  have HV := hide hV
  rw [hV] at HP ⊢
  clear hV
  obtain ⟨V0, V1, V2, V3, V4⟩ := V
  unfold Vl.cells
  simp only [] at HP ⊢
  go_wp2_with fail
  refine (unhide HP).mono ?_
  rintro e we ⟨rfl, tve, re, fe⟩
  have HRE := hide re
  replace FA := hide ((unhide FA).trans fe)
  clear re fe HP
  go_wp2
  refine bodyPost_ret (v := .int .i64 (nds.length : Int)) (results_t1 rfl _ _ _ rfl) rfl ?_
  unfold RdPost
  refine ⟨by simp [Syn.size], unhide FA, tve, (unhide HRE).cast ?_ (by have := unhide HMX; simp only [Syn.nest]; omega) (by simp [Syn.most])⟩
  simp only [Syn.emit]
  rw [unhide HN, unhide HV]
  rfl
set_option maxRecDepth 100000 in
set_option maxHeartbeats 4000000 in
theorem op_lit2 (t : Tk) (l : List Tk) (hk : t.kind = 2) (R : Nat) (w : World) (tv : Value) (nds : List Nd) (d dp m : Nat) (hr : RdAt X R w tv (t :: l) nds d dp m) (hf : Fit (t :: l) nds d dp m) :
    Calls Tryz.prog 220 #[.pointer (some ⟨R, 0, none⟩)] w (RdPost X R nds d dp m w (some (.atom t, l))) := by
  have hn : atomN t = ⟨0, emp, litV t, zeroF, []⟩ := by
    unfold atomN; rw [if_neg (by omega)]
  have HN := hide hn
  clear hn
  have hf' := hf
  have HF := hide hf'
  have hlen : (t :: l).length ≤ 3000 := by have := hf.nodes; omega
  have hRlt := hr.lt
  obtain ⟨MX, hMX⟩ : ∃ MX, max dp d = MX := ⟨_, rfl⟩
  have HMX := hide hMX
  obtain ⟨k3, f3⟩ := hr.drew.cell3
  obtain ⟨k2, f2⟩ := hr.drew.cell2
  have hmx : max (dp : Int) (d : Int) = (MX : Int) := by omega
  have HR := hide ((hr.deepest MX).drew)
  have FA : Hid (Frm R w (w.setCell ⟨R, 3, none⟩ (.int .i64 (MX : Int))).drew) := hide (((Frm.refl R w).set 3 _).trans (Frm.of (Below.refl _ _).drew))
  clear hr hf hf' hMX
  go_enter Tryz.func220, Tryz.ntmps220
  go_upto_region 1 with fail
  go_region
  clear k3 f3 k2 f2 hmx
  go_wp2_with fail
  generalize hW : (w.setCell ⟨R, 3, none⟩ (.int .i64 (MX : Int))).drew = W0 at HR FA ⊢
  clear hW
  have HAH := hide (ahead_val R W0 tv (t :: l) nds d _ m (unhide HR))
  rw [show headT (t :: l) = t from rfl] at HAH
  refine (unhide HAH).mono ?_
  rintro e wa ⟨rfl, ba⟩
  have HRA := hide (((unhide HR).nx ba).nx (below_al wa (.cells t.cells tkT)))
  replace FA := hide (((unhide FA).trans (Frm.of ba)).trans (Frm.of (below_al wa (.cells t.cells tkT))))
  have st := tk_new wa t
  have k0 := tk_kind wa t
  have zT := tk_size t
  rw [hk] at k0
  have FI : Hid (Fit (t :: l) nds d MX m) := hide (by have h := unhide HF; exact ⟨h.text, h.nodes, h.deep, by have := h.dp; have := h.deep; have := unhide HMX; omega, h.most⟩)
  clear ba HAH HR
  have HLI := hide (fun w => literal_val t w (by have := (unhide FI).text t (by simp); omega))
  have HTK := hide (take_ok R _ tv t l nds d _ m (unhide HRA) (by rw [List.length_cons] at hlen; omega))
  rw [hk] at HTK
  clear hk HRA
  go_wp2_with fail
  refine (unhide HTK).mono ?_
  rintro e wb ⟨rfl, rb, fb⟩
  have HRB := hide rb
  replace FA := hide ((unhide FA).trans fb)
  clear rb fb HTK
  go_wp2_with fail
  refine (unhide HLI _).mono ?_
  rintro e wc ⟨rfl, bc⟩
  have HRC := hide ((unhide HRB).nx bc)
  replace FA := hide ((unhide FA).trans (Frm.of bc))
  clear bc HRB HLI
  have HP := hide (put_val R _ tv l _ d _ _ (atomN t) (.slice none 0 0) (unhide HRC) (by rw [unhide HN]; exact kidsX_nil _ _) (by have := (unhide FI).nodes; omega))
  rw [unhide HN] at HP
  unfold Nd.cells zeroF zeroR at HP
  simp only [] at HP
  clear HRC
  obtain ⟨V, hV⟩ : ∃ V, litV t = V := ⟨_, rfl⟩
  have HV := hide hV
  rw [hV] at HP ⊢
  clear hV
  obtain ⟨V0, V1, V2, V3, V4⟩ := V
  unfold Vl.cells
  simp only [] at HP ⊢
  go_wp2_with fail
  refine (unhide HP).mono ?_
  rintro e we ⟨rfl, tve, re, fe⟩
  have HRE := hide re
  replace FA := hide ((unhide FA).trans fe)
  clear re fe HP
  go_wp2
  refine bodyPost_ret (v := .int .i64 (nds.length : Int)) (results_t1 rfl _ _ _ rfl) rfl ?_
  unfold RdPost
  refine ⟨by simp [Syn.size], unhide FA, tve, (unhide HRE).cast ?_ (by have := unhide HMX; simp only [Syn.nest]; omega) (by simp [Syn.most])⟩
  simp only [Syn.emit]
  rw [unhide HN, unhide HV]
  rfl
set_option maxRecDepth 100000 in
set_option maxHeartbeats 4000000 in
theorem op_ref (t : Tk) (l : List Tk) (hk : t.kind = 3) (R : Nat) (w : World) (tv : Value) (nds : List Nd) (d dp m : Nat) (hr : RdAt X R w tv (t :: l) nds d dp m) (hf : Fit (t :: l) nds d dp m) :
    Calls Tryz.prog 220 #[.pointer (some ⟨R, 0, none⟩)] w (RdPost X R nds d dp m w (some (.atom t, l))) := by
  have hn : atomN t = ⟨1, emp, zVl, t.ref, []⟩ := by
    unfold atomN; rw [if_pos hk]
  have HN := hide hn
  clear hn
  have hf' := hf
  have HF := hide hf'
  have hlen : (t :: l).length ≤ 3000 := by have := hf.nodes; omega
  have hRlt := hr.lt
  obtain ⟨MX, hMX⟩ : ∃ MX, max dp d = MX := ⟨_, rfl⟩
  have HMX := hide hMX
  obtain ⟨k3, f3⟩ := hr.drew.cell3
  obtain ⟨k2, f2⟩ := hr.drew.cell2
  have hmx : max (dp : Int) (d : Int) = (MX : Int) := by omega
  have HR := hide ((hr.deepest MX).drew)
  have FA : Hid (Frm R w (w.setCell ⟨R, 3, none⟩ (.int .i64 (MX : Int))).drew) := hide (((Frm.refl R w).set 3 _).trans (Frm.of (Below.refl _ _).drew))
  clear hr hf hf' hMX
  go_enter Tryz.func220, Tryz.ntmps220
  go_upto_region 1 with fail
  go_region
  clear k3 f3 k2 f2 hmx
  go_wp2_with fail
  generalize hW : (w.setCell ⟨R, 3, none⟩ (.int .i64 (MX : Int))).drew = W0 at HR FA ⊢
  clear hW
  have HAH := hide (ahead_val R W0 tv (t :: l) nds d _ m (unhide HR))
  rw [show headT (t :: l) = t from rfl] at HAH
  refine (unhide HAH).mono ?_
  rintro e wa ⟨rfl, ba⟩
  have HRA := hide (((unhide HR).nx ba).nx (below_al wa (.cells t.cells tkT)))
  replace FA := hide (((unhide FA).trans (Frm.of ba)).trans (Frm.of (below_al wa (.cells t.cells tkT))))
  have st := tk_new wa t
  have k0 := tk_kind wa t
  have zT := tk_size t
  rw [hk] at k0
  have FI : Hid (Fit (t :: l) nds d MX m) := hide (by have h := unhide HF; exact ⟨h.text, h.nodes, h.deep, by have := h.dp; have := h.deep; have := unhide HMX; omega, h.most⟩)
  clear ba HAH HR
  have HTK := hide (take_ok R _ tv t l nds d _ m (unhide HRA) (by rw [List.length_cons] at hlen; omega))
  rw [hk] at HTK
  have fl4 := tk_fld4 t
  clear hk HRA
  go_wp2_with fail
  refine (unhide HTK).mono ?_
  rintro e wb ⟨rfl, rb, fb⟩
  have HRB := hide rb
  replace FA := hide ((unhide FA).trans fb)
  clear rb fb HTK
  have HP := hide (put_val R _ tv l _ d _ _ (atomN t) (.slice none 0 0) (unhide HRB) (by rw [unhide HN]; exact kidsX_nil _ _) (by have := (unhide FI).nodes; omega))
  rw [unhide HN] at HP
  unfold Nd.cells zVl at HP
  simp only [] at HP
  clear HRB
  go_wp2_with fail
  refine (unhide HP).mono ?_
  rintro e we ⟨rfl, tve, re, fe⟩
  have HRE := hide re
  replace FA := hide ((unhide FA).trans fe)
  clear re fe HP
  go_wp2
  refine bodyPost_ret (v := .int .i64 (nds.length : Int)) (results_t1 rfl _ _ _ rfl) rfl ?_
  unfold RdPost
  refine ⟨by simp [Syn.size], unhide FA, tve, (unhide HRE).cast ?_ (by have := unhide HMX; simp only [Syn.nest]; omega) (by simp [Syn.most])⟩
  simp only [Syn.emit]
  rw [unhide HN]
  rfl
set_option maxRecDepth 100000 in
set_option maxHeartbeats 4000000 in
theorem op_word (t : Tk) (l : List Tk) (hk : t.kind = 4) (h : ∀ o m, l = o :: m → ArOk m) (R : Nat) (w : World) (tv : Value) (nds : List Nd) (d dp m : Nat) (hr : RdAt X R w tv (t :: l) nds d dp m) (hf : Fit (t :: l) nds d dp m) :
    Calls Tryz.prog 220 #[.pointer (some ⟨R, 0, none⟩)] w (RdPost X R nds d dp m w (wordO t l)) := by
  have HH := hide h
  have HK := hide hk
  clear h
  have hf' := hf
  have HF := hide hf'
  have hlen : (t :: l).length ≤ 3000 := by have := hf.nodes; omega
  have hRlt := hr.lt
  obtain ⟨MX, hMX⟩ : ∃ MX, max dp d = MX := ⟨_, rfl⟩
  have HMX := hide hMX
  obtain ⟨k3, f3⟩ := hr.drew.cell3
  obtain ⟨k2, f2⟩ := hr.drew.cell2
  have hmx : max (dp : Int) (d : Int) = (MX : Int) := by omega
  have HR := hide ((hr.deepest MX).drew)
  have FA : Hid (Frm R w (w.setCell ⟨R, 3, none⟩ (.int .i64 (MX : Int))).drew) := hide (((Frm.refl R w).set 3 _).trans (Frm.of (Below.refl _ _).drew))
  clear hr hf hf' hMX
  go_enter Tryz.func220, Tryz.ntmps220
  go_upto_region 1 with fail
  go_region
  clear k3 f3 k2 f2 hmx
  go_wp2_with fail
  generalize hW : (w.setCell ⟨R, 3, none⟩ (.int .i64 (MX : Int))).drew = W0 at HR FA ⊢
  clear hW
  have HAH := hide (ahead_val R W0 tv (t :: l) nds d _ m (unhide HR))
  rw [show headT (t :: l) = t from rfl] at HAH
  refine (unhide HAH).mono ?_
  rintro e wa ⟨rfl, ba⟩
  have HRA := hide (((unhide HR).nx ba).nx (below_al wa (.cells t.cells tkT)))
  replace FA := hide (((unhide FA).trans (Frm.of ba)).trans (Frm.of (below_al wa (.cells t.cells tkT))))
  have st := tk_new wa t
  have k0 := tk_kind wa t
  have zT := tk_size t
  rw [hk] at k0
  have FI : Hid (Fit (t :: l) nds d MX m) := hide (by have h := unhide HF; exact ⟨h.text, h.nodes, h.deep, by have := h.dp; have := h.deep; have := unhide HMX; omega, h.most⟩)
  clear ba HAH HR
  have HC := hide (word_ok t l (unhide HK) (unhide HH) R _ tv nds d MX m (unhide HRA) (unhide FI) (by have := unhide HMX; omega))
  obtain ⟨O, hO⟩ : ∃ O, wordO t l = O := ⟨_, rfl⟩
  rw [hO] at HC
  have HO := hide hO
  clear hk HRA HH hO
  cases O with
  | none =>
    go_wp2_with fail
    refine (unhide HC).mono ?_
    intro e wb hp
    have HPP := hide (post_dp (unhide HMX) (unhide FA) hp)
    obtain ⟨rfl, _⟩ := hp
    go_wp2
    refine ⟨rfl, ?_⟩
    rw [unhide HO]
    exact unhide HPP
  | some p =>
    obtain ⟨s, r⟩ := p
    go_wp2_with fail
    refine (unhide HC).mono ?_
    intro e wb hp
    have HPP := hide (post_dp (unhide HMX) (unhide FA) hp)
    obtain ⟨rfl, _⟩ := hp
    go_wp2
    refine bodyPost_ret (v := .int .i64 ((nds.length + s.size - 1 : Nat) : Int)) (results_t1 rfl _ _ _ rfl) rfl ?_
    rw [unhide HO]
    exact unhide HPP
set_option maxRecDepth 100000 in
set_option maxHeartbeats 4000000 in
theorem op_par (t : Tk) (l : List Tk) (hk : t.kind = 6) (h : RdOk 60 [] (rd (.chain 1) l) l) (R : Nat) (w : World) (tv : Value) (nds : List Nd) (d dp m : Nat) (hr : RdAt X R w tv (t :: l) nds d dp m) (hf : Fit (t :: l) nds d dp m) :
    Calls Tryz.prog 220 #[.pointer (some ⟨R, 0, none⟩)] w (RdPost X R nds d dp m w (closeS (rd (.chain 1) l) (.par t))) := by
  have HH := hide h
  have HK := hide hk
  clear h
  have hf' := hf
  have HF := hide hf'
  have hlen : (t :: l).length ≤ 3000 := by have := hf.nodes; omega
  have hRlt := hr.lt
  obtain ⟨MX, hMX⟩ : ∃ MX, max dp d = MX := ⟨_, rfl⟩
  have HMX := hide hMX
  obtain ⟨k3, f3⟩ := hr.drew.cell3
  obtain ⟨k2, f2⟩ := hr.drew.cell2
  have hmx : max (dp : Int) (d : Int) = (MX : Int) := by omega
  have HR := hide ((hr.deepest MX).drew)
  have FA : Hid (Frm R w (w.setCell ⟨R, 3, none⟩ (.int .i64 (MX : Int))).drew) := hide (((Frm.refl R w).set 3 _).trans (Frm.of (Below.refl _ _).drew))
  clear hr hf hf' hMX
  go_enter Tryz.func220, Tryz.ntmps220
  go_upto_region 1 with fail
  go_region
  clear k3 f3 k2 f2 hmx
  go_wp2_with fail
  generalize hW : (w.setCell ⟨R, 3, none⟩ (.int .i64 (MX : Int))).drew = W0 at HR FA ⊢
  clear hW
  have HAH := hide (ahead_val R W0 tv (t :: l) nds d _ m (unhide HR))
  rw [show headT (t :: l) = t from rfl] at HAH
  refine (unhide HAH).mono ?_
  rintro e wa ⟨rfl, ba⟩
  have HRA := hide (((unhide HR).nx ba).nx (below_al wa (.cells t.cells tkT)))
  replace FA := hide (((unhide FA).trans (Frm.of ba)).trans (Frm.of (below_al wa (.cells t.cells tkT))))
  have st := tk_new wa t
  have k0 := tk_kind wa t
  have zT := tk_size t
  rw [hk] at k0
  have FI : Hid (Fit (t :: l) nds d MX m) := hide (by have h := unhide HF; exact ⟨h.text, h.nodes, h.deep, by have := h.dp; have := h.deep; have := unhide HMX; omega, h.most⟩)
  clear ba HAH HR
  have HC := hide (enc_int t l (unhide HK) (unhide HH) R _ tv nds d MX m (unhide HRA) (unhide FI))
  obtain ⟨O, hO⟩ : ∃ O, closeS (rd (.chain 1) l) (.par t) = O := ⟨_, rfl⟩
  rw [hO] at HC
  have HO := hide hO
  clear hk HRA HH hO
  cases O with
  | none =>
    go_wp2_with fail
    refine (unhide HC).mono ?_
    intro e wb hp
    have HPP := hide (post_dp (unhide HMX) (unhide FA) hp)
    obtain ⟨rfl, _⟩ := hp
    go_wp2
    refine ⟨rfl, ?_⟩
    rw [unhide HO]
    exact unhide HPP
  | some p =>
    obtain ⟨s, r⟩ := p
    go_wp2_with fail
    refine (unhide HC).mono ?_
    intro e wb hp
    have HPP := hide (post_dp (unhide HMX) (unhide FA) hp)
    obtain ⟨rfl, _⟩ := hp
    go_wp2
    refine bodyPost_ret (v := .int .i64 ((nds.length + s.size - 1 : Nat) : Int)) (results_t1 rfl _ _ _ rfl) rfl ?_
    rw [unhide HO]
    exact unhide HPP
end Go.Proofs.YtloamahbghjjgaaGreatDoor

namespace Go.Proofs.YtloamahbghjjgaaGreatDoor
open Go.RowKit

theorem operand_word {t : Tk} {l : List Tk} (ha : ¬ atomB t = true) (hw : t.kind = 4) : rd .operand (t :: l) = wordO t l := by
  rw [rd_operand, if_neg ha, if_pos hw]
  cases l <;> rfl
theorem operand_ok (l : List Tk) (h4 : ∀ t o m, l = t :: o :: m → ArOk m) (h6 : ∀ t l', l = t :: l' → RdOk 60 [] (rd (.chain 1) l') l') : RdOk 220 [] (rd .operand l) l := by
  intro X R w tv nds d dp m hr hf
  cases l with
  | nil => exact op_bad [] (by intro k hk; simp only [List.mem_cons, List.not_mem_nil, or_false] at hk; rcases hk with h | h | h | h | h | h <;> subst h <;> decide) R w tv nds d dp m hr hf
  | cons t l =>
    by_cases ha : atomB t = true
    · rw [rd_operand, if_pos ha]
      rcases atom_kind ha with h | h | h | h
      · exact op_lit0 t l h R w tv nds d dp m hr hf
      · exact op_lit1 t l h R w tv nds d dp m hr hf
      · exact op_lit2 t l h R w tv nds d dp m hr hf
      · exact op_ref t l h R w tv nds d dp m hr hf
    have hat : t.kind ≠ 0 ∧ t.kind ≠ 1 ∧ t.kind ≠ 2 ∧ t.kind ≠ 3 := by
      refine ⟨fun h => ha ?_, fun h => ha ?_, fun h => ha ?_, fun h => ha ?_⟩ <;> simp [atomB, h]
    by_cases hw : t.kind = 4
    · rw [operand_word ha hw]
      exact op_word t l hw (fun o q e => h4 t o q (by rw [e])) R w tv nds d dp m hr hf
    · rw [rd_operand, if_neg ha, if_neg hw]
      by_cases ho : t.kind = 6
      · rw [if_pos ho]
        exact op_par t l ho (h6 t l rfl) R w tv nds d dp m hr hf
      · rw [if_neg ho]
        refine op_bad (t :: l) ?_ R w tv nds d dp m hr hf
        intro k hk
        simp only [List.mem_cons, List.not_mem_nil, or_false] at hk
        show t.kind ≠ k
        rcases hk with h | h | h | h | h | h <;> subst h
        · exact hat.1
        · exact hat.2.1
        · exact hat.2.2.1
        · exact hat.2.2.2
        · exact hw
        · exact ho
theorem args_ok (l : List Tk) (h : ∀ l', l'.length ≤ l.length → RdOk 60 [] (rd (.chain 1) l') l') : ArOk l := by
  by_cases h7 : (headT l).kind = 7
  · exact args_none l h7
  · exact args_some l h7 h
theorem chains_ok (n : Nat) (hs : ∀ l : List Tk, l.length ≤ n → RdOk 152 [] (rd .signed l) l) :
    ∀ (j k : Nat), k + j = 6 → 1 ≤ k → ∀ l : List Tk, l.length ≤ n → RdOk 96 [.int .i64 (k : Int)] (rd (.chain k) l) l
  | 0, k, hk, _, l, hl => by
    have : k = 6 := by omega
    subst this
    exact chain_top l (hs l hl)
  | j + 1, k, hk, h1, l, hl => chain_low k h1 (by omega) l (fun l' hl' => chains_ok n hs j (k + 1) (by omega) (by omega) l' (by omega))
theorem formulas_ok (n : Nat) (hs : ∀ l : List Tk, l.length ≤ n → RdOk 152 [] (rd .signed l) l) (l : List Tk) (hl : l.length ≤ n) : RdOk 60 [] (rd (.chain 1) l) l :=
  formula_ok l (chains_ok n hs 5 1 rfl (Nat.le_refl 1) l hl)
theorem signed_ok : ∀ (n : Nat) (l : List Tk), l.length ≤ n → RdOk 152 [] (rd .signed l) l
  | 0, l, hl => by
    have : l = [] := List.eq_nil_of_length_eq_zero (by omega)
    subst this
    exact signed_no [] (by decide) (percented_ok [] (operand_ok [] (fun t o m e => by cases e) (fun t l' e => by cases e)))
  | n + 1, l, hl => by
    by_cases hs : signB (headT l) = true
    · cases l with
      | nil => exact absurd hs (by decide)
      | cons t l =>
        have hs : signB t = true := hs
        exact signed_yes t l hs (signed_ok n l (by simpa using hl))
    · refine signed_no l (by simpa using hs) (percented_ok l (operand_ok l (fun t o m e => ?_) (fun t l' e => ?_)))
      · have hm : m.length ≤ n := by rw [e] at hl; simp only [List.length_cons] at hl; omega
        exact args_ok m (fun l' hl' => formulas_ok n (signed_ok n) l' (by omega))
      · have hm : l'.length ≤ n := by rw [e] at hl; simp only [List.length_cons] at hl; omega
        exact formulas_ok n (signed_ok n) l' hm
theorem formula_val (l : List Tk) : RdOk 60 [] (rd (.chain 1) l) l := formulas_ok l.length (signed_ok l.length) l (Nat.le_refl _)
end Go.Proofs.YtloamahbghjjgaaGreatDoor

namespace Go.Proofs.YtloamahbghjjgaaGreatDoor
open Go.RowKit
variable {X : Nat → Prop}

set_option maxRecDepth 100000 in
set_option maxHeartbeats 1000000 in
/-- The deferred closure, of a frame that panics with an error of the reader's. -/
theorem catch_panics (p : Addr) (w : World) (v0 : Value) (hc : w.cell? p = some v0) (hz : w.frozen? p = false) :
    CallsD Tryz.prog 59 #[.pointer (some p)] (.panicking noForm) w fun e u' w' =>
      e = .returned (.tuple #[]) ∧ u' = .panicking [{ v := .iface 24 (.int .i64 4), recovered := true }] ∧ w' = w.setCell p (.int .i64 4) := by
  unfold noForm
  have hta : ∀ w : World, (Instr.typeAssert (.iface 24 (.int .i64 4)) 20 24 true).run Tryz.prog w = .ok (.tuple #[.int .i64 4, .bool true]) w := fun w => by kernel_rfl
  refine callsD_of_wpS Tryz.func59 rfl fun c₀ cs hu => ?_
  apply wpS_seq
  apply wpS_region
  simp [wpOpsS, go_sem, recoverD, hu, Tryz.ntmps59, Exit.thenS]
  refine wpS_of_wp ?_
  go_wp2
  cases c₀
  simp_all [bodyPostS, results, Tryz.results59]
set_option maxRecDepth 100000 in
set_option maxHeartbeats 1000000 in
/-- The deferred closure, of a frame that returns. -/
theorem catch_rests (p : Addr) (w : World) :
    CallsD Tryz.prog 59 #[.pointer (some p)] .returning w fun e u' w' => e = .returned (.tuple #[]) ∧ u' = .returning ∧ w' = w := by
  refine callsD_of_wpS Tryz.func59 rfl fun c₀ cs hu => ?_
  apply wpS_seq
  apply wpS_region
  simp [wpOpsS, go_sem, recoverD, hu, Tryz.ntmps59, Exit.thenS]
  refine wpS_of_wp ?_
  go_wp2
  cases c₀
  simp_all [bodyPostS, results, Tryz.results59]
theorem RdAt.beside {R A i : Nat} {w : World} {tv v : Value} {l : List Tk} {nds : List Nd} {d dp m : Nat} {T : TypeId} {cs : Array Value} (h : RdAt X R w tv l nds d dp m) (hA : CellsAt w A T cs) (hR : R < A) (h1 : T ≠ ndT) (h2 : T ≠ 3) : RdAt X R (w.setCell ⟨A, i, none⟩ v) tv l nds d dp m := by
  obtain ⟨a, cap, c1, c2, c3, c4⟩ := h.cells
  obtain ⟨ps, p1, p2, p3⟩ := h.row
  have hs : (w.setCell ⟨A, i, none⟩ v).heap.size = w.heap.size := by simp [World.setCell]
  have hb : ∀ k, k ≠ A → (w.setCell ⟨A, i, none⟩ v).heap[k]? = w.heap[k]? := fun k hk => heap_setCell_other _ _ _ _ hk
  have far : ∀ {B T' n s : Nat} {u : Value} {xs : List Value}, w.ownsRow B T' s u n xs → T' ≠ T → (w.setCell ⟨A, i, none⟩ v).ownsRow B T' s u n xs := fun {B T' n s u xs} hr hT =>
    owns_grown hr (fun k _ hv => hb k (fun e => by
      obtain ⟨cur, hc⟩ := owns_type hr hv
      unfold CellsAt at hA
      rw [e, hA] at hc
      cases hc
      exact hT rfl))
  refine ⟨⟨a, cap, cells_set_far c1 (by omega) i v, c2, toks_old c3 c4 (fun k hk => hb k (by omega)) (Nat.le_of_eq hs.symm), c4⟩, ⟨ps, p1, far p2 (fun e => h1 e.symm), fun p hp => ⟨far (p3 p hp).1 (fun e => h2 e.symm), (p3 p hp).2⟩⟩, fun x hx => by rw [hs]; exact h.lim x hx⟩
theorem Frm.setNew {R A i : Nat} {w w' : World} {v : Value} (h : Frm R w w') (hA : w.heap.size ≤ A) : Frm R w (w'.setCell ⟨A, i, none⟩ v) :=
  ⟨h.os, h.tape, h.output, by have := h.size; simp [World.setCell] at this ⊢; exact this, fun k hk hR hn => by rw [heap_setCell_other _ _ _ _ (by show k ≠ A; omega)]; exact h.block k hk hR hn⟩
def WhPost (X : Nat → Prop) (R : Nat) (w : World) (o : Option Syn) (e : Ending) (w' : World) : Prop :=
  match o with
  | none => e = .returned (.int .i64 4) ∧ Frm R w w'
  | some s => e = .returned (.int .i64 0) ∧ Frm R w w' ∧ ∃ tv', RdAt X R w' tv' [] (s.emit 0) 0 s.nest s.most
set_option maxRecDepth 100000 in
set_option maxHeartbeats 4000000 in
theorem whole_val (R : Nat) (w : World) (tv : Value) (l : List Tk) (hr : RdAt X R w tv l [] 0 0 0) (hf : Fit l [] 0 0 0) :
    Calls Tryz.prog 33 #[.pointer (some ⟨R, 0, none⟩)] w (WhPost X R w (wholeO (rd (.chain 1) l))) := by
  have hmf : ∀ (fn : Fn) (first cap : Array Value) (w : World), (Instr.makeFunc fn first cap).run Tryz.prog w = .ok (.func fn first cap) w := fun _ _ _ _ => rfl
  have hR := hr.lt
  have HC := hide (formula_val l X R _ tv [] 0 0 0 (hr.nx (below_al w (.cells #[.int .i64 0] 24))) hf)
  have CA := hide (cells_new w 24 #[.int .i64 0])
  clear hr hf
  simp only [List.toArray] at HC
  obtain ⟨O, hO⟩ : ∃ O, rd (.chain 1) l = O := ⟨_, rfl⟩
  rw [hO] at HC ⊢
  clear hO
  unfold RdPost at HC
  cases O with
  | none =>
    simp only [] at HC
    go_enter_defers Tryz.func33, Tryz.ntmps33
    go_wp2_with fail
    refine (unhide HC).mono ?_
    rintro e w1 ⟨rfl, f1⟩
    have C1 := f1.cells (unhide CA) (show w.heap.size ≠ R by omega) (by decide)
    have FA := hide ((Frm.of (below_al w (.cells #[.int .i64 0] 24))).trans f1)
    clear f1
    go_wp2
    refine leaves_cons (f := 59) (args := #[.pointer (some ⟨w.heap.size, 0, none⟩)]) (by simp) (by simp [go_sem]) ?_
    refine (catch_panics ⟨w.heap.size, 0, none⟩ w1 (.int .i64 0) (cells_c C1 0 _ rfl) (cells_f C1 0)).mono ?_
    rintro e u' w'' ⟨rfl, rfl, rfl⟩
    have k1 := cells_c (cells_set C1 0 (.int .i64 4)) 0 (.int .i64 4) rfl
    have HP : WhPost X R w (wholeO none) (.returned (.int .i64 4)) (w1.setCell ⟨w.heap.size, 0, none⟩ (.int .i64 4)) := ⟨rfl, (unhide FA).setNew (Nat.le_refl _)⟩
    simp [Leaves, settle, results, k1, go_sem]
    exact HP
  | some p =>
    obtain ⟨s, r⟩ := p
    simp only [] at HC
    go_enter_defers Tryz.func33, Tryz.ntmps33
    go_wp2_with fail
    refine (unhide HC).mono ?_
    rintro e w1 ⟨rfl, f1, tv1, r1⟩
    have C1 := f1.cells (unhide CA) (show w.heap.size ≠ R by omega) (by decide)
    have FA := hide ((Frm.of (below_al w (.cells #[.int .i64 0] 24))).trans f1)
    obtain ⟨a, cap, hc, hcap, _, _⟩ := r1.cells
    have c0 := (cells5 hc).1
    have HR1 := hide r1
    have HC1 := hide C1
    clear f1 r1 hc hcap
    cases r with
    | cons t r =>
      have hl0 : 0 < (r.length : Int) + 1 := by omega
      simp only [List.length_cons] at c0
      have z0 := cells_c C1 0 _ rfl
      clear C1
      go_wp2
      have C1 := unhide HC1
      refine leaves_cons (f := 59) (args := #[.pointer (some ⟨w.heap.size, 0, none⟩)]) (by simp) (by simp [go_sem]) ?_
      refine (catch_panics ⟨w.heap.size, 0, none⟩ w1 (.int .i64 0) (cells_c C1 0 _ rfl) (cells_f C1 0)).mono ?_
      rintro e u' w'' ⟨rfl, rfl, rfl⟩
      have k1 := cells_c (cells_set C1 0 (.int .i64 4)) 0 (.int .i64 4) rfl
      have HP : WhPost X R w (wholeO (some (s, t :: r))) (.returned (.int .i64 4)) (w1.setCell ⟨w.heap.size, 0, none⟩ (.int .i64 4)) := ⟨rfl, (unhide FA).setNew (Nat.le_refl _)⟩
      simp [Leaves, settle, results, k1, go_sem]
      exact HP
    | nil =>
      simp only [List.length_nil] at c0
      have z0 := cells_c C1 0 _ rfl
      have z1 := cells_f C1 0
      clear C1
      go_wp2
      have C1 := unhide HC1
      refine leaves_cons (f := 59) (args := #[.pointer (some ⟨w.heap.size, 0, none⟩)]) (by simp) (by simp [go_sem]) ?_
      refine (catch_rests ⟨w.heap.size, 0, none⟩ _).mono ?_
      rintro e u' w'' ⟨rfl, rfl, rfl⟩
      have k1 := cells_c (cells_set C1 0 (.int .i64 0)) 0 (.int .i64 0) rfl
      have HP : WhPost X R w (wholeO (some (s, []))) (.returned (.int .i64 0)) (w1.setCell ⟨w.heap.size, 0, none⟩ (.int .i64 0)) :=
        ⟨rfl, (unhide FA).setNew (Nat.le_refl _), tv1, ((unhide HR1).beside C1 hR (by decide) (by decide)).cast (by simp) (by simp) (by simp)⟩
      simp [Leaves, settle, results, k1, go_sem]
      exact HP
end Go.Proofs.YtloamahbghjjgaaGreatDoor

namespace Go.Proofs.YtloamahbghjjgaaGreatDoor
open Go.RowKit

theorem up_size (r : List UInt8) : (⟨(r.map upC).toArray⟩ : ByteArray).size = r.length := by
  show (r.map upC).length = r.length
  simp
theorem tok1_text (c : UInt8) (l : List UInt8) (h : (c :: l).length ≤ 1000) : (tok1 (c :: l)).1.text.size ≤ 1000 := by
  have hr := tk_len inRunC (c :: l)
  have he : emp.size ≤ 1000 := by decide
  have hw : (wordT (runR (c :: l))).text.size ≤ 1000 := by
    show (⟨((runR (c :: l)).map upC).toArray⟩ : ByteArray).size ≤ 1000
    rw [up_size]; unfold runR; omega
  unfold tok1
  rw [show (c :: l).headD 0 = c from rfl]
  split
  · unfold numTok; split <;> exact he
  split
  · unfold nameTok
    split
    · exact hw
    split
    · exact he
    split
    · exact hw
    · exact he
  split
  · unfold opTok
    show ((c :: l).take (opN (c :: l))).length ≤ 1000
    rw [List.length_take]; omega
  split
  · unfold textTok
    split
    · exact he
    · rename_i p hq
      split
      · exact he
      · show p.1.length ≤ 1000
        omega
  split
  · unfold failTok
    split <;> exact he
  split
  · exact he
  split
  · exact he
  split
  · exact he
  · exact he
theorem lexL_text (o : Nat) (l : List UInt8) : l.length ≤ 1000 → ∀ t ∈ (lexL o l).1, t.text.size ≤ 1000 := by
  refine lex_all (M := fun o l => l.length ≤ 1000 → ∀ t ∈ (lexL o l).1, t.text.size ≤ 1000) ?_ ?_ ?_ ?_ o l
  · intro o _ t ht; rw [lexL_nil] at ht; cases ht
  · intro o l ih hl; rw [lexL_blank]; exact ih (by simp at hl; omega)
  · intro o c l hc he _ t ht; rw [lexL_bad o c l hc he] at ht; cases ht
  · intro o c l hc he ih hl t ht
    have ih := ih (by rw [List.length_drop]; omega)
    rw [lexL_ok o c l hc he] at ht
    generalize lexL (o + (tok1 (c :: l)).2.1) ((c :: l).drop (tok1 (c :: l)).2.1) = y at ih ht
    obtain ⟨a, b, e⟩ := y
    unfold preT at ht
    split at ht
    · rw [List.singleton_append, List.mem_cons] at ht
      rcases ht with rfl | ht
      · exact tok1_text c l hl
      · exact ih t ht
    · cases ht
theorem lexT_text (l : List UInt8) (hl : l.length ≤ 1000) : ∀ t ∈ (lexT l).1, t.text.size ≤ 1000 := by
  unfold lexT
  split
  · intro t ht; cases ht
  · exact lexL_text 0 l hl
theorem lexT_count (l : List UInt8) : (lexT l).1.length ≤ 512 := by
  unfold lexT
  split
  · simp
  · have := lexL_count 0 l
    omega
end Go.Proofs.YtloamahbghjjgaaGreatDoor

namespace Go.Proofs.YtloamahbghjjgaaGreatDoor
open Go.RowKit

abbrev noX : Nat → Prop := fun _ => False
theorem rd_start {w : World} {B : Nat} {v : Value} {ts : List Tk} (h : TokRow tkT w B v ts) :
    RdAt noX w.heap.size (w.alloc (.cells #[v, .slice none 0 0, .int .i64 0, .int .i64 0, .int .i64 0] rdT)) (.slice none 0 0) ts [] 0 0 0 := by
  have hlt := World.ownsRow.lt h
  obtain ⟨a, cap, rfl, hcap, hin⟩ := toks_of_row h
  refine ⟨⟨a, cap, cells_new _ _ _, hcap, toks_below hin (below_al _ _), fun p hp => ?_⟩, ⟨[], rfl, World.ownsRow_nil _ _ _ _, fun p hp => by cases hp⟩, fun x hx => hx.elim⟩
  subst hp
  exact (hlt p.block rfl).2
theorem results_t2 {P : Program} {fn : Func} {a b : Tmp} (h : fn.results = #[.tmp a, .tmp b]) (tmps : Array Value) (w : World)
    (x : Value) (hx : tmps.getD a undef = x) (y : Value) (hy : tmps.getD b undef = y) :
    (results fn tmps).run P w = .ok (.tuple #[x, y]) w := by
  have hx' : tmps[a]?.getD undef = x := by simpa using hx
  have hy' : tmps[b]?.getD undef = y := by simpa using hy
  simp [results, h, hx', hy']
theorem RdAt.tree {X : Nat → Prop} {R : Nat} {w : World} {tv : Value} {l : List Tk} {nds : List Nd} {d dp m : Nat} (h : RdAt X R w tv l nds d dp m) : ∃ a cap, tv = .slice a nds.length cap ∧ w.cell? ⟨R, 1, none⟩ = some (.slice a nds.length cap) := by
  obtain ⟨a, cap, h1, _⟩ := h.cells
  obtain ⟨ps, p1, p2, _⟩ := h.row
  have hl : ps.length = nds.length := by rw [← p1]; simp
  have hc := (cells5 h1).2.1
  rcases p2.2 with ⟨rfl, h0⟩ | ⟨g, c, cur, rfl, _⟩
  · exact ⟨none, 0, by rw [← hl, h0], by rw [hc, ← hl, h0]⟩
  · exact ⟨_, c, by rw [hl], by rw [hc, hl]⟩
def PaPost (T : TypeId) (o : List Nd × Int) (w : World) (e : Ending) (w' : World) : Prop :=
  ∃ v, e = .returned (.tuple #[v, .int .i64 o.2]) ∧ NodeRow T w' w.heap.size v o.1 ∧ Below w.heap.size w w'
theorem parse_bad {l : List UInt8} (h : (lexT l).2.2 ≠ 0) : parseL l = ([], (lexT l).2.2) := by unfold parseL; rw [if_neg h]
theorem parse_ok {l : List UInt8} (h : (lexT l).2.2 = 0) : parseL l = parseS (wholeO (rd (.chain 1) (lexT l).1)) := by unfold parseL; rw [if_pos h]
set_option maxRecDepth 100000 in
set_option maxHeartbeats 4000000 in
theorem parse_val (s : ByteArray) (w : World) (hs : s.size ≤ 1000) (he : Env5 w) : Calls Tryz.prog 12 #[.string s] w (PaPost ndT (parseL s.data.toList) w) := by
  have HL := hide (lex5_val s w hs he)
  have HT := hide (lexT_text s.data.toList hs)
  have hcnt := lexT_count s.data.toList
  obtain ⟨P, hP⟩ : ∃ P, parseL s.data.toList = P := ⟨_, rfl⟩
  have HP := hide hP
  rw [hP]
  obtain ⟨ts, n, x, hX⟩ : ∃ ts n x, lexT s.data.toList = (ts, n, x) := ⟨_, _, _, rfl⟩
  have HX := hide hX
  rw [hX] at HL HT hcnt
  clear hP hX he
  unfold LexPost at HL
  simp only [] at HL HT hcnt
  by_cases hx : x = 0
  · have HPS : Hid (P = parseS (wholeO (rd (.chain 1) ts))) := hide (by rw [← unhide HP, parse_ok (by rw [unhide HX]; exact hx), unhide HX])
    clear HP
    subst hx
    go_enter Tryz.func12, Tryz.ntmps12
    go_wp2_with fail
    refine (unhide HL).mono ?_
    rintro e w1 ⟨v, rfl, hrow, b1⟩
    have HB := hide b1
    have HS := hide (rd_start hrow)
    obtain ⟨a, cap, rfl, _, _⟩ := toks_of_row hrow
    clear hrow b1 HL
    have HW := hide (whole_val _ _ _ ts (unhide HS) ⟨unhide HT, by simp; omega, by omega, by omega, by omega⟩)
    have HB2 := hide (below_nx (unhide HB) (below_al w1 (.cells #[.slice a ts.length cap, .slice none 0 0, .int .i64 0, .int .i64 0, .int .i64 0] rdT)))
    have hle : w.heap.size ≤ w1.heap.size := (unhide HB).size
    clear HS HT HB
    obtain ⟨o, ho⟩ : ∃ o, wholeO (rd (.chain 1) ts) = o := ⟨_, rfl⟩
    rw [ho] at HW HPS
    clear ho
    unfold WhPost at HW
    have below : ∀ w2, Frm w1.heap.size (w1.alloc (.cells #[.slice a ts.length cap, .slice none 0 0, .int .i64 0, .int .i64 0, .int .i64 0] rdT)) w2 → Below w.heap.size w w2 := fun w2 h =>
      (unhide HB2).trans ((h.below (by simp)).mono hle)
    have HBL := hide below
    clear below
    cases o with
    | none =>
      simp only [] at HW
      go_wp2_with fail
      refine (unhide HW).mono ?_
      rintro e w2 ⟨rfl, f2⟩
      have FA := hide (unhide HBL w2 f2)
      clear f2 HBL
      go_wp2
      refine bodyPost_ret (results_t2 rfl _ _ (.slice none 0 0) rfl (.int .i64 4) rfl) rfl ?_
      unfold PaPost
      rw [unhide HPS]
      exact ⟨_, rfl, nodes_nil _ _ _, unhide FA⟩
    | some y =>
      simp only [] at HW
      by_cases h1 : 32 < y.nest
      · have e : P = ([], 8) := by rw [unhide HPS]; simp only [parseS]; rw [if_pos h1]
        have h1i : (32 : Int) < (y.nest : Int) := by omega
        clear h1
        go_wp2_with fail
        refine (unhide HW).mono ?_
        rintro e2 w2 ⟨rfl, f2, tv2, r2⟩
        obtain ⟨k3, _⟩ := r2.cell3
        have FA := hide (unhide HBL w2 f2)
        clear f2 HBL r2
        go_wp2
        refine bodyPost_ret (results_t2 rfl _ _ (.slice none 0 0) rfl (.int .i64 8) rfl) rfl ?_
        unfold PaPost
        rw [e]
        exact ⟨_, rfl, nodes_nil _ _ _, unhide FA⟩
      have h1i : ¬ (32 : Int) < (y.nest : Int) := by omega
      by_cases h2 : 32 < y.most
      · have e : P = ([], 7) := by rw [unhide HPS]; simp only [parseS]; rw [if_neg h1, if_pos h2]
        have h2i : (32 : Int) < (y.most : Int) := by omega
        clear h1 h2
        go_wp2_with fail
        refine (unhide HW).mono ?_
        rintro e2 w2 ⟨rfl, f2, tv2, r2⟩
        obtain ⟨k3, _⟩ := r2.cell3
        obtain ⟨k4, _⟩ := r2.cell4
        have FA := hide (unhide HBL w2 f2)
        clear f2 HBL r2
        go_wp2
        refine bodyPost_ret (results_t2 rfl _ _ (.slice none 0 0) rfl (.int .i64 7) rfl) rfl ?_
        unfold PaPost
        rw [e]
        exact ⟨_, rfl, nodes_nil _ _ _, unhide FA⟩
      have h2i : ¬ (32 : Int) < (y.most : Int) := by omega
      by_cases h3 : 256 < y.size
      · have e : P = ([], 10) := by rw [unhide HPS]; simp only [parseS]; rw [if_neg h1, if_neg h2, if_pos h3]
        have h3i : (256 : Int) < (y.size : Int) := by omega
        clear h1 h2 h3
        go_wp2_with fail
        refine (unhide HW).mono ?_
        rintro e2 w2 ⟨rfl, f2, tv2, r2⟩
        obtain ⟨k3, _⟩ := r2.cell3
        obtain ⟨k4, _⟩ := r2.cell4
        obtain ⟨ta, tcap, rfl, k1⟩ := r2.tree
        rw [emit_len] at k1
        have FA := hide (unhide HBL w2 f2)
        clear f2 HBL r2
        go_wp2
        refine bodyPost_ret (results_t2 rfl _ _ (.slice none 0 0) rfl (.int .i64 10) rfl) rfl ?_
        unfold PaPost
        rw [e]
        exact ⟨_, rfl, nodes_nil _ _ _, unhide FA⟩
      have h3i : ¬ (256 : Int) < (y.size : Int) := by omega
      have e : P = (y.emit 0, 0) := by rw [unhide HPS]; simp only [parseS]; rw [if_neg h1, if_neg h2, if_neg h3]
      clear h1 h2 h3
      go_wp2_with fail
      refine (unhide HW).mono ?_
      rintro e2 w2 ⟨rfl, f2, tv2, r2⟩
      obtain ⟨k3, _⟩ := r2.cell3
      obtain ⟨k4, _⟩ := r2.cell4
      obtain ⟨ta, tcap, rfl, k1⟩ := r2.tree
      rw [emit_len] at k1
      have FA := hide (unhide HBL w2 f2)
      have HR2 := hide r2
      rw [emit_len] at HR2
      clear f2 HBL r2
      go_wp2
      refine bodyPost_ret (results_t2 rfl _ _ (.slice ta y.size tcap) rfl (.int .i64 0) rfl) rfl ?_
      unfold PaPost
      rw [e]
      exact ⟨_, rfl, nodes_mono (nodesX_of (unhide HR2).row) (by omega), unhide FA⟩
  · have e : P = ([], x) := by rw [← unhide HP, parse_bad (by rw [unhide HX]; exact hx), unhide HX]
    have hne : (x != 0) = true := by simpa using hx
    clear hx HT HP
    go_enter Tryz.func12, Tryz.ntmps12
    go_wp2_with fail
    refine (unhide HL).mono ?_
    rintro e w1 ⟨v, rfl, hrow, b1⟩
    have HB := hide b1
    clear hrow b1 HL
    go_wp2
    refine bodyPost_ret (results_t2 rfl _ _ (.slice none 0 0) rfl (.int .i64 x) rfl) rfl ?_
    unfold PaPost
    rw [e]
    exact ⟨_, rfl, nodes_nil _ _ _, unhide HB⟩
end Go.Proofs.YtloamahbghjjgaaGreatDoor
