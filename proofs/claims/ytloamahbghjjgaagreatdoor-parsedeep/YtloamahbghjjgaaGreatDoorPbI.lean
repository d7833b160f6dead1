/- The walks of enclosed, at both of its types. -/
import Derived.Test.YtloamahbghjjgaaGreatDoorPbH
namespace Go.Proofs.YtloamahbghjjgaaGreatDoor
open Go.RowKit
variable {X : Nat → Prop}

theorem close_no {O : Rs} {mk : Syn → Tk → Syn} {s : Syn} {r : List Tk} (h : O = some (s, r)) (hk : (headT r).kind ≠ 7) : closeS O mk = none := by
  subst h
  cases r with
  | nil => rfl
  | cons c r =>
    have hk : c.kind ≠ 7 := hk
    simp only [closeS]; rw [if_neg hk]
theorem close_yes {O : Rs} {mk : Syn → Tk → Syn} {s : Syn} {c : Tk} {r : List Tk} (h : O = some (s, c :: r)) (hk : c.kind = 7) : closeS O mk = some (mk s c, r) := by
  subst h
  simp only [closeS]; rw [if_pos hk]
/-- A call of arguments, at tokens. -/
def ArOk (l : List Tk) : Prop :=
  ∀ (X : Nat → Prop) (R : Nat) (w : World) (tv : Value) (nds : List Nd) (d dp m : Nat), RdAt X R w tv l nds (d + 1) dp m → Fit l nds (d + 1) dp m → d ≤ dp →
    Calls Tryz.prog 263 #[.pointer (some ⟨R, 0, none⟩)] w (ArPost X R nds d dp m w (rd .args l))
/-- What enclosed tells of arguments. -/
def EnPost (X : Nat → Prop) (R : Nat) (nds : List Nd) (d dp m : Nat) (w : World) (o : Rs) (e : Ending) (w' : World) : Prop :=
  match o with
  | none => e = .panicked noForm ∧ Frm R w w'
  | some (s, r) => ∃ kv, e = .returned kv ∧ (KidsAt w' (R + 1) kv ((s.kidsL nds.length).map fun k : Nat => (k : Int)) ∧ ∀ g, kv.ownBlock = some g → ¬ X g) ∧ Frm R w w' ∧ ∃ tv', RdAt X R w' tv' r (nds ++ s.emit nds.length) d (max dp (d + s.nest)) (max m s.most)
theorem kids_set {w : World} {R i : Nat} {kv v : Value} {ks : List Int} (h : KidsAt w (R + 1) kv ks) : KidsAt (w.setCell ⟨R, i, none⟩ v) (R + 1) kv ks :=
  owns_grown h (fun k hk hv => heap_setCell_other _ _ _ _ (by have := (h.lt k hv).1; show k ≠ R; omega))
set_option maxRecDepth 100000 in
set_option maxHeartbeats 4000000 in
theorem enc_int (o : Tk) (l : List Tk) (ho : o.kind = 6) (h : RdOk 60 [] (rd (.chain 1) l) l) (R : Nat) (w : World) (tv : Value) (nds : List Nd) (d dp m : Nat) (hr : RdAt X R w tv (o :: l) nds d dp m) (hf : Fit (o :: l) nds d dp m) :
    Calls Tryz.prog 246 #[.pointer (some ⟨R, 0, none⟩), .func (.func 60) #[.pointer (some ⟨R, 0, none⟩)] #[]] w (RdPost X R nds d dp m w (closeS (rd (.chain 1) l) (.par o))) := by
  have HH := hide h
  have HF := hide hf
  have hdl : d + l.length + 1 ≤ 3000 := by have := hf.deep; rw [List.length_cons] at this; omega
  have HTK := hide (take_ok R w tv o l _ d _ _ hr (by omega))
  rw [ho] at HTK
  obtain ⟨O, hO⟩ : ∃ O, rd (.chain 1) l = O := ⟨_, rfl⟩
  have HQ := hide hO
  rw [hO]
  clear h hr hf hO
  go_enter Tryz.func246, Tryz.ntmps246
  go_wp2_with fail
  refine (unhide HTK).mono ?_
  rintro e wc ⟨rfl, rc, fc⟩
  have HRC := hide rc
  have FA := hide fc
  obtain ⟨k2, f2⟩ := rc.cell2
  clear rc fc HTK
  have HC := hide (unhide HH X R _ tv nds (d + 1) dp m ((unhide HRC).deep (d + 1)) (by
    have hf := fit_tail (unhide HF)
    exact ⟨hf.text, hf.nodes, by omega, hf.dp, hf.most⟩))
  replace FA := hide ((unhide FA).set 2 (.int .i64 ((d + 1 : Nat) : Int)))
  clear HH HRC
  simp only [List.toArray, Int.natCast_add, Int.cast_ofNat_Int] at HC FA
  rw [unhide HQ] at HC
  unfold RdPost at HC
  cases O with
  | none =>
    simp only [] at HC
    go_wp2_with fail
    refine (unhide HC).mono ?_
    rintro e w1 ⟨rfl, hf⟩
    have FB := hide ((unhide FA).trans hf)
    clear hf
    go_wp2
    exact ⟨rfl, rfl, unhide FB⟩
  | some p =>
    obtain ⟨s, r⟩ := p
    simp only [] at HC
    go_wp2_with fail
    refine (unhide HC).mono ?_
    rintro e w1 ⟨rfl, hf, tv1, r1⟩
    have HR1 := hide r1
    replace FA := hide ((unhide FA).trans hf)
    obtain ⟨k3, f3⟩ := r1.cell2
    simp only [Int.natCast_add, Int.cast_ofNat_Int] at k3
    clear hf r1 HC k2 f2
    have HR2 := hide ((unhide HR1).deep d)
    replace FA := hide ((unhide FA).set 2 (.int .i64 (d : Int)))
    clear HR1
    by_cases hk : (headT r).kind = 7
    · cases r with
      | nil => exact absurd hk (by rw [show headT [] = noT from rfl]; decide)
      | cons c r =>
        have hk : c.kind = 7 := hk
        have HK7 := hide hk
        have hlen : r.length ≤ 1000000 := by
          have h1 := (unhide HF).nodes
          have h3 := congrArg List.length (rd_toks (unhide HQ))
          simp only [Md.left, List.nil_append, List.length_append, List.length_cons] at h1 h3
          omega
        have HT2 := hide (take_ok R _ tv1 c r _ d _ _ (unhide HR2) hlen)
        rw [hk] at HT2
        clear hk HR2
        go_wp2_with fail
        refine (unhide HT2).mono ?_
        rintro e we ⟨rfl, re, fe⟩
        have HRE := hide re
        replace FA := hide ((unhide FA).trans fe)
        clear re fe
        go_wp2
        refine bodyPost_ret (v := .int .i64 ((nds.length + s.size - 1 : Nat) : Int)) (results_t1 rfl _ _ _ rfl) rfl ?_
        rw [close_yes rfl (unhide HK7)]
        exact ⟨rfl, unhide FA, tv1, (unhide HRE).cast rfl (by simp only [Syn.nest]; omega) rfl⟩
    · have HK7 := hide hk
      have HT2 := hide (take_bad R _ tv1 r _ d _ _ 7 (unhide HR2) hk)
      clear hk HR2
      go_wp2_with fail
      refine (unhide HT2).mono ?_
      rintro e we ⟨rfl, fe⟩
      have FB := hide ((unhide FA).trans fe)
      clear fe
      go_wp2
      refine ⟨rfl, ?_⟩
      rw [close_no rfl (unhide HK7)]
      exact ⟨rfl, unhide FB⟩
set_option maxRecDepth 100000 in
set_option maxHeartbeats 4000000 in
theorem enc_args (o : Tk) (l : List Tk) (ho : o.kind = 6) (h : ArOk l) (R : Nat) (w : World) (tv : Value) (nds : List Nd) (d dp m : Nat) (hr : RdAt X R w tv (o :: l) nds d dp m) (hf : Fit (o :: l) nds d dp m) (hdp : d ≤ dp) :
    Calls Tryz.prog 262 #[.pointer (some ⟨R, 0, none⟩), .func (.func 263) #[.pointer (some ⟨R, 0, none⟩)] #[]] w (EnPost X R nds d dp m w (closeS (rd .args l) (fun s _ => s))) := by
  have HH := hide h
  have HF := hide hf
  have hdl : d + l.length + 1 ≤ 3000 := by have := hf.deep; rw [List.length_cons] at this; omega
  have HTK := hide (take_ok R w tv o l _ d _ _ hr (by omega))
  rw [ho] at HTK
  obtain ⟨O, hO⟩ : ∃ O, rd .args l = O := ⟨_, rfl⟩
  have HQ := hide hO
  rw [hO]
  clear h hr hf hO
  go_enter Tryz.func262, Tryz.ntmps262
  go_wp2_with fail
  refine (unhide HTK).mono ?_
  rintro e wc ⟨rfl, rc, fc⟩
  have HRC := hide rc
  have FA := hide fc
  obtain ⟨k2, f2⟩ := rc.cell2
  clear rc fc HTK
  have HC := hide (unhide HH X R _ tv nds d dp m ((unhide HRC).deep (d + 1)) (by
    have hf := fit_tail (unhide HF)
    exact ⟨hf.text, hf.nodes, by omega, hf.dp, hf.most⟩) hdp)
  replace FA := hide ((unhide FA).set 2 (.int .i64 ((d + 1 : Nat) : Int)))
  clear HH HRC
  simp only [List.toArray, Int.natCast_add, Int.cast_ofNat_Int] at HC FA
  rw [unhide HQ] at HC
  unfold ArPost at HC
  cases O with
  | none =>
    simp only [] at HC
    go_wp2_with fail
    refine (unhide HC).mono ?_
    rintro e w1 ⟨rfl, hf⟩
    have FB := hide ((unhide FA).trans hf)
    clear hf
    go_wp2
    exact ⟨rfl, rfl, unhide FB⟩
  | some p =>
    obtain ⟨s, r⟩ := p
    simp only [] at HC
    go_wp2_with fail
    refine (unhide HC).mono ?_
    rintro e w1 ⟨kv, rfl, kd, hf, tv1, r1⟩
    have KD := hide (kids_set (i := 2) (v := .int .i64 (d : Int)) kd.1)
    have KX := hide kd.2
    clear kd
    have HR1 := hide r1
    replace FA := hide ((unhide FA).trans hf)
    obtain ⟨k3, f3⟩ := r1.cell2
    simp only [Int.natCast_add, Int.cast_ofNat_Int] at k3
    clear hf r1 HC k2 f2
    have HR2 := hide ((unhide HR1).deep d)
    replace FA := hide ((unhide FA).set 2 (.int .i64 (d : Int)))
    clear HR1
    by_cases hk : (headT r).kind = 7
    · cases r with
      | nil => exact absurd hk (by rw [show headT [] = noT from rfl]; decide)
      | cons c r =>
        have hk : c.kind = 7 := hk
        have HK7 := hide hk
        have hlen : r.length ≤ 1000000 := by
          have h1 := (unhide HF).nodes
          have h3 := congrArg List.length (rd_toks (unhide HQ))
          simp only [Md.left, List.nil_append, List.length_append, List.length_cons] at h1 h3
          omega
        have HT2 := hide (take_ok R _ tv1 c r _ d _ _ (unhide HR2) hlen)
        rw [hk] at HT2
        clear hk HR2
        go_wp2_with fail
        refine (unhide HT2).mono ?_
        rintro e we ⟨rfl, re, fe⟩
        have HRE := hide re
        replace FA := hide ((unhide FA).trans fe)
        replace KD := hide (fe.kids (unhide KD) (by omega))
        clear re fe
        go_wp2
        refine bodyPost_ret (v := kv) (results_t1 rfl _ _ _ rfl) rfl ?_
        rw [close_yes rfl (unhide HK7)]
        exact ⟨kv, rfl, ⟨unhide KD, unhide KX⟩, unhide FA, tv1, unhide HRE⟩
    · have HK7 := hide hk
      have HT2 := hide (take_bad R _ tv1 r _ d _ _ 7 (unhide HR2) hk)
      clear hk HR2
      go_wp2_with fail
      refine (unhide HT2).mono ?_
      rintro e we ⟨rfl, fe⟩
      have FB := hide ((unhide FA).trans fe)
      clear fe
      go_wp2
      refine ⟨rfl, ?_⟩
      rw [close_no rfl (unhide HK7)]
      exact ⟨rfl, unhide FB⟩
end Go.Proofs.YtloamahbghjjgaaGreatDoor
