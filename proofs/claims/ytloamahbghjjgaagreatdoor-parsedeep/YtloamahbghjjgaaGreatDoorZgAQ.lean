/- The walk of signed. -/
import Derived.BigQuiet
import Derived.BigRegion
import Derived.Deep.AppendLies
import Derived.Deep.CutBlock
import Derived.Deep.CutRange
import Derived.Deep.DeepFit
import Derived.Deep.MidRow
import Derived.Deep.QuietTactic
import Derived.Deep.RegionHeld3
import Derived.Deep.RegionLaw
import Derived.Deep.RegionWith
import Derived.Deep.WholeRow
import Derived.Great.BuildSlice
import Derived.Laws.Bits64b
import Derived.Laws.CopyOwn
import Derived.Laws.IdiomStrings
import Derived.Laws.OwnMore
import Derived.Laws.Rows
import Derived.Laws.StructEq
import Derived.Laws.Tables
import Derived.Lib.Atoi
import Derived.Lib.AtoiErrMem
import Derived.Lib.BitFns
import Derived.Lib.CutLaws
import Derived.Lib.IndexMore
import Derived.Lib.ItoaMem
import Derived.Lib.ItoaNum
import Derived.Lib.Join
import Derived.Lib.Replace
import Derived.Lib.Walk
import Derived.Shelf.Bits.Mul64
import Derived.Shelf.LaysM
import Derived.Shelf.Small.Bits
import Derived.Shelf.Small.Strs
import Derived.Shelf.Small.Utf8
import Derived.Shelf.Small.Wraps
import Derived.Shelf.Strconv.Atoi
import Derived.Shelf.Strconv.Itoa0
import Derived.Shelf.Strconv.Itoa1
import Derived.Shelf.Strconv.Itoa2
import Derived.Shelf.Strconv.Itoa3
import Derived.Shelf.Strings.AsciiSet
import Derived.Shelf.Strings.Builder1
import Derived.Shelf.Strings.Builder2
import Derived.Shelf.Strings.Count
import Derived.Shelf.Strings.Cut
import Derived.Shelf.Strings.OnBuilder
import Derived.Shelf.Strings.Prefix
import Derived.Shelf.Strings.Replace
import Derived.Shelf.Strings.Runes
import Derived.Shelf.Strings.Search1
import Derived.Shelf.Strings.Search2
import Derived.Shelf.Strings.Search3
import Derived.Shelf.Strings.Shaped
import Derived.Shelf.Strings.Split
import Derived.Shelf.Strings.SplitShaped
import Derived.Shelf.Strings.Trim
import Derived.Shelf.Unicode.DecodeSlow
import Derived.Test.YtloamahbghjjgaaGreatDoorProg
import Derived.Test.YtloamahbghjjgaaGreatDoorRows
import Derived.WalkKit
import Derived.WalkLawsBesides
import Derived.WalkSmall
import Derived.WalkSpells
import Derived.Test.YtloamahbghjjgaaGreatDoorZgAA
import Derived.Test.YtloamahbghjjgaaGreatDoorZgAB
import Derived.Test.YtloamahbghjjgaaGreatDoorZgAC
import Derived.Test.YtloamahbghjjgaaGreatDoorZgAD
import Derived.Test.YtloamahbghjjgaaGreatDoorZgAE
import Derived.Test.YtloamahbghjjgaaGreatDoorZgAF
import Derived.Test.YtloamahbghjjgaaGreatDoorZgAG
import Derived.Test.YtloamahbghjjgaaGreatDoorZgAH
import Derived.Test.YtloamahbghjjgaaGreatDoorZgAI
import Derived.Test.YtloamahbghjjgaaGreatDoorZgAJ
import Derived.Test.YtloamahbghjjgaaGreatDoorZgAK
import Derived.Test.YtloamahbghjjgaaGreatDoorZgAL
import Derived.Test.YtloamahbghjjgaaGreatDoorZgAM
import Derived.Test.YtloamahbghjjgaaGreatDoorZgAN
import Derived.Test.YtloamahbghjjgaaGreatDoorZgAO
import Derived.Test.YtloamahbghjjgaaGreatDoorZgAP
namespace Go.Proofs.YtloamahbghjjgaaGreatDoor
open Go.RowKit
variable {X : Nat → Prop}

theorem RdAt.deep {R : Nat} {w : World} {tv : Value} {l : List Tk} {nds : List Nd} {d dp m : Nat} (h : RdAt X R w tv l nds d dp m) (d' : Nat) : RdAt X R (w.setCell ⟨R, 2, none⟩ (.int .i64 (d' : Int))) tv l nds d' dp m :=
  h.put 2 (.int .i64 (d' : Int)) tv l d' dp m (fun a cap _ h1 h2 h3 => ⟨a, cap, rfl, h2, h1, h3⟩) h.row
theorem RdAt.deepest {R : Nat} {w : World} {tv : Value} {l : List Tk} {nds : List Nd} {d dp m : Nat} (h : RdAt X R w tv l nds d dp m) (x : Nat) : RdAt X R (w.setCell ⟨R, 3, none⟩ (.int .i64 (x : Int))) tv l nds d x m :=
  h.put 3 (.int .i64 (x : Int)) tv l d x m (fun a cap _ h1 h2 h3 => ⟨a, cap, rfl, h2, h1, h3⟩) h.row
theorem RdAt.mostly {R : Nat} {w : World} {tv : Value} {l : List Tk} {nds : List Nd} {d dp m : Nat} (h : RdAt X R w tv l nds d dp m) (x : Nat) : RdAt X R (w.setCell ⟨R, 4, none⟩ (.int .i64 (x : Int))) tv l nds d dp x :=
  h.put 4 (.int .i64 (x : Int)) tv l d dp x (fun a cap _ h1 h2 h3 => ⟨a, cap, rfl, h2, h1, h3⟩) h.row
theorem RdAt.cell2 {R : Nat} {w : World} {tv : Value} {l : List Tk} {nds : List Nd} {d dp m : Nat} (h : RdAt X R w tv l nds d dp m) : w.cell? ⟨R, 2, none⟩ = some (.int .i64 (d : Int)) ∧ w.frozen? ⟨R, 2, none⟩ = false := by
  obtain ⟨a, cap, h1, _⟩ := h.cells
  exact ⟨(cells5 h1).2.2.1, cells_f h1 2⟩
theorem RdAt.cell3 {R : Nat} {w : World} {tv : Value} {l : List Tk} {nds : List Nd} {d dp m : Nat} (h : RdAt X R w tv l nds d dp m) : w.cell? ⟨R, 3, none⟩ = some (.int .i64 (dp : Int)) ∧ w.frozen? ⟨R, 3, none⟩ = false := by
  obtain ⟨a, cap, h1, _⟩ := h.cells
  exact ⟨(cells5 h1).2.2.2.1, cells_f h1 3⟩
theorem RdAt.cell4 {R : Nat} {w : World} {tv : Value} {l : List Tk} {nds : List Nd} {d dp m : Nat} (h : RdAt X R w tv l nds d dp m) : w.cell? ⟨R, 4, none⟩ = some (.int .i64 (m : Int)) ∧ w.frozen? ⟨R, 4, none⟩ = false := by
  obtain ⟨a, cap, h1, _⟩ := h.cells
  exact ⟨(cells5 h1).2.2.2.2, cells_f h1 4⟩
theorem rd_signed_no {l : List Tk} (h : signB (headT l) = false) : rd .signed l = rd .pcted l := by
  cases l with
  | nil => rw [rd_pcted]; rfl
  | cons t l =>
    have h : signB t = false := h
    rw [rd_signed, if_neg (by rw [h]; simp)]
set_option maxRecDepth 100000 in
set_option maxHeartbeats 4000000 in
theorem signed_no (l : List Tk) (hs : signB (headT l) = false) (h : RdOk 190 [] (rd .pcted l) l) : RdOk 152 [] (rd .signed l) l := by
  intro X R w tv nds d dp m hr hf
  rw [rd_signed_no hs]
  generalize rd .pcted l = O at h ⊢
  have HOP := hide (rop_val R w tv l _ d _ _ hr)
  have HH := hide h
  have HR := hide hr
  have HF := hide hf
  unfold signB at hs
  rw [Bool.or_eq_false_iff] at hs
  have e43 := (opS_eq (headT l) 43).trans hs.1
  have e45 := (opS_eq (headT l) 45).trans hs.2
  clear h hr hf hs
  go_enter Tryz.func152, Tryz.ntmps152
  go_wp2_with fail
  refine (unhide HOP).mono ?_
  rintro e wa ⟨rfl, ba⟩
  have HC := hide (unhide HH X R wa tv nds d dp m ((unhide HR).nx ba) (unhide HF))
  have FA : Hid (Frm R w wa) := hide (Frm.of ba)
  clear ba HOP HH HR
  simp only [List.toArray] at HC
  unfold RdPost at HC ⊢
  cases O with
  | none =>
    go_wp2_with fail
    refine (unhide HC).mono ?_
    rintro e w1 ⟨rfl, hf⟩
    have FB := hide ((unhide FA).trans hf)
    clear hf
    go_wp2
    exact ⟨rfl, rfl, unhide FB⟩
  | some p =>
    obtain ⟨s, r⟩ := p
    go_wp2_with fail
    refine (unhide HC).mono ?_
    rintro e w1 ⟨rfl, hf, hx⟩
    have FB := hide ((unhide FA).trans hf)
    have HX := hide hx
    clear hx hf
    go_wp2
    exact bodyPost_ret (v := .int .i64 ((nds.length + s.size - 1 : Nat) : Int)) (results_t1 rfl _ _ _ rfl) rfl ⟨rfl, unhide FB, unhide HX⟩
def signO (t : Tk) (o : Rs) : Rs := match o with | none => none | some p => some (.sign t p.1, p.2)
set_option maxRecDepth 100000 in
set_option maxHeartbeats 4000000 in
theorem signed_yes (t : Tk) (l : List Tk) (hs : signB t = true) (h : RdOk 152 [] (rd .signed l) l) : RdOk 152 [] (rd .signed (t :: l)) (t :: l) := by
  intro X R w tv nds d dp m hr hf
  have hsg : rd .signed (t :: l) = signO t (rd .signed l) := by
    rw [rd_signed, if_pos hs]; rfl
  rw [hsg]
  clear hsg
  have HOP := hide (rop_val R w tv (t :: l) _ d _ _ hr)
  rw [show headT (t :: l) = t from rfl] at HOP
  have HH := hide h
  have HR := hide hr
  have HF := hide hf
  have kt := (sign_kind hs).1
  have hdl : d + l.length + 1 ≤ 3000 := by have := hf.deep; rw [List.length_cons] at this; omega
  have e43 := opS_eq t 43
  have e45 := opS_eq t 45
  clear h hr hf
  obtain ⟨O, hO⟩ : ∃ O, rd .signed l = O := ⟨_, rfl⟩
  rw [hO] at HH ⊢
  have HQ := hide hO
  clear hO
  have fin : ∀ (x y : Bool), (opL5 t == [43]) = x → (opL5 t == [45]) = y → x = !y → minusB t = y →
      Calls Tryz.prog 152 (Value.pointer (some ⟨R, 0, none⟩) :: []).toArray w (RdPost X R nds d dp m w (signO t O)) := by
    intro x y ex ey hxy hmy
    rw [ex] at e43
    rw [ey] at e45
    subst hxy
    have HM := hide hmy
    clear ex ey hs hmy
    simp only [List.toArray]
    unfold signO
    cases O with
    | none =>
      cases y
      all_goals
        simp only [Bool.not_true, Bool.not_false] at e43
        go_enter Tryz.func152, Tryz.ntmps152
        go_wp2_with fail
        refine (unhide HOP).mono ?_
        rintro e wa ⟨rfl, ba⟩
        have HRB := hide ((unhide HR).nx ba)
        have FA : Hid (Frm R w wa) := hide (Frm.of ba)
        clear ba HOP HR
        have HTK := hide (take_ok R wa tv t l _ d _ _ (unhide HRB) (by omega))
        rw [kt] at HTK
        go_wp2_with fail
        refine (unhide HTK).mono ?_
        rintro e wc ⟨rfl, rc, fc⟩
        have HRC := hide rc
        replace FA := hide ((unhide FA).trans fc)
        obtain ⟨k2, f2⟩ := rc.cell2
        clear rc fc HTK HRB
        have HC := hide (unhide HH X R _ tv nds (d + 1) dp m ((unhide HRC).deep (d + 1)) (by
          have hf := fit_tail (unhide HF)
          exact ⟨hf.text, hf.nodes, by omega, hf.dp, hf.most⟩))
        replace FA := hide ((unhide FA).set 2 (.int .i64 ((d + 1 : Nat) : Int)))
        clear HH HRC
        simp only [List.toArray, Int.natCast_add, Int.cast_ofNat_Int] at HC FA
        unfold RdPost at HC
        go_wp2_with fail
        refine (unhide HC).mono ?_
        rintro e w1 ⟨rfl, hf⟩
        have FB := hide ((unhide FA).trans hf)
        clear hf
        go_wp2
        exact ⟨rfl, rfl, unhide FB⟩
    | some p =>
      obtain ⟨s, r⟩ := p
      cases y
      all_goals
        simp only [Bool.not_true, Bool.not_false] at e43
        go_enter Tryz.func152, Tryz.ntmps152
        go_wp2_with fail
        refine (unhide HOP).mono ?_
        rintro e wa ⟨rfl, ba⟩
        have HRB := hide ((unhide HR).nx ba)
        have FA : Hid (Frm R w wa) := hide (Frm.of ba)
        clear ba HOP HR
        have HTK := hide (take_ok R wa tv t l _ d _ _ (unhide HRB) (by omega))
        rw [kt] at HTK
        go_wp2_with fail
        refine (unhide HTK).mono ?_
        rintro e wc ⟨rfl, rc, fc⟩
        have HRC := hide rc
        replace FA := hide ((unhide FA).trans fc)
        obtain ⟨k2, f2⟩ := rc.cell2
        clear rc fc HTK HRB
        have HC := hide (unhide HH X R _ tv nds (d + 1) dp m ((unhide HRC).deep (d + 1)) (by
          have hf := fit_tail (unhide HF)
          exact ⟨hf.text, hf.nodes, by omega, hf.dp, hf.most⟩))
        replace FA := hide ((unhide FA).set 2 (.int .i64 ((d + 1 : Nat) : Int)))
        clear HH HRC
        simp only [List.toArray, Int.natCast_add, Int.cast_ofNat_Int] at HC FA
        unfold RdPost at HC
        go_wp2_with fail
        refine (unhide HC).mono ?_
        rintro e w1 ⟨rfl, hf, tv1, r1⟩
        have HR1 := hide r1
        replace FA := hide ((unhide FA).trans hf)
        obtain ⟨k3, f3⟩ := r1.cell2
        simp only [Int.natCast_add, Int.cast_ofNat_Int] at k3
        clear hf r1 HC k2 f2
        have HR2 := hide ((unhide HR1).deep d)
        replace FA := hide ((unhide FA).set 2 (.int .i64 (d : Int)))
        clear HR1
      · go_wp2
        refine bodyPost_ret (v := .int .i64 ((nds.length + s.size - 1 : Nat) : Int)) (results_t1 rfl _ _ _ rfl) rfl ?_
        unfold RdPost
        have hz : (Syn.sign t s).size = s.size := by simp only [Syn.size]; rw [unhide HM]; rfl
        have he : (Syn.sign t s).emit nds.length = s.emit nds.length := by simp only [Syn.emit]; rw [unhide HM]; rfl
        refine ⟨by rw [hz], unhide FA, tv1, ?_⟩
        rw [he]
        exact (unhide HR2).cast rfl (by simp only [Syn.nest]; omega) rfl
      · obtain ⟨pa, hpa⟩ : ∃ pa : Nat, nds.length + s.size - 1 = pa := ⟨_, rfl⟩
        have PA := hide hpa
        rw [hpa]
        clear hpa
        have hss : (w1.setCell ⟨R, 2, none⟩ (.int .i64 (d : Int))).heap.size = w1.heap.size := by simp [World.setCell]
        have hRd : R < w1.heap.size := by rw [← hss]; exact (unhide HR2).lt
        have hcnt : (nds ++ s.emit nds.length).length ≤ 10000 := by
          have h1 := (unhide HF).nodes
          have h2 := (size_toks s).1
          have h3 := congrArg List.length (rd_toks (unhide HQ))
          simp only [Md.left, List.nil_append, List.length_append, List.length_cons, emit_len] at h1 h3 ⊢
          omega
        have HK := kidsX_one (unhide HR2) (pa : Int)
        rw [hss] at HK
        have HP := hide (put_val R _ tv1 r _ d _ _ (negN pa) (.slice (some ⟨w1.heap.size, 0, none⟩) 1 1) ((unhide HR2).nx (below_al _ (.cells #[.int .i64 (pa : Int)] 3))) HK hcnt)
        unfold negN Nd.cells zVl zeroF zeroR at HP
        simp only [] at HP
        clear HK hcnt
        go_wp2_with fail
        refine (unhide HP).mono ?_
        rintro e we ⟨rfl, tve, re, fe⟩
        have HRE := hide re
        replace FA := hide (((unhide FA).trans (Frm.of (below_al _ (.cells #[.int .i64 (pa : Int)] 3)))).trans fe)
        clear re fe HP HR2
        have hz : (Syn.sign t s).size = s.size + 1 := by simp only [Syn.size]; rw [unhide HM]; rfl
        have he : (Syn.sign t s).emit nds.length = s.emit nds.length ++ [negN pa] := by simp only [Syn.emit]; rw [unhide HM, unhide PA]; rfl
        have HZ := hide hz
        have HE := hide he
        clear hz he
        go_wp2
        refine bodyPost_ret (v := .int .i64 (((nds ++ s.emit nds.length).length : Nat) : Int)) (results_t1 rfl _ _ _ ?_) rfl ?_
        · simp
        unfold RdPost
        refine ⟨?_, unhide FA, tve, ?_⟩
        · rw [unhide HZ, List.length_append, emit_len]; rfl
        · rw [unhide HE]
          exact (unhide HRE).cast (by rw [List.append_assoc]; rfl) (by simp only [Syn.nest]; omega) rfl
  have hx : (opL5 t == [43]) = !(opL5 t == [45]) := by
    unfold signB at hs
    cases h4 : (opL5 t == [45]) with
    | true =>
      have : opL5 t = [45] := by simpa using h4
      rw [this]; decide
    | false => rw [h4] at hs; simpa using hs
  exact fin _ _ rfl rfl hx rfl
end Go.Proofs.YtloamahbghjjgaaGreatDoor

namespace Go.Proofs.YtloamahbghjjgaaGreatDoor
open Go.RowKit
variable {X : Nat → Prop}

theorem close_no {O : Rs} {mk : Syn → Tk → Syn} {s : Syn} {r : List Tk} (h : O = some (s, r)) (hk : (headT r).kind ≠ 7) : closeS O mk = none := by
  subst h
  cases r with
  | nil => rfl
  | cons c r =>
    have hk : c.kind ≠ 7 := hk
    simp only [closeS]; rw [if_neg hk]
theorem close_yes {O : Rs} {mk : Syn → Tk → Syn} {s : Syn} {c : Tk} {r : List Tk} (h : O = some (s, c :: r)) (hk : c.kind = 7) : closeS O mk = some (mk s c, r) := by
  subst h
  simp only [closeS]; rw [if_pos hk]
def ArOk (l : List Tk) : Prop :=
  ∀ (X : Nat → Prop) (R : Nat) (w : World) (tv : Value) (nds : List Nd) (d dp m : Nat), RdAt X R w tv l nds (d + 1) dp m → Fit l nds (d + 1) dp m → d ≤ dp →
    Calls Tryz.prog 263 #[.pointer (some ⟨R, 0, none⟩)] w (ArPost X R nds d dp m w (rd .args l))
def EnPost (X : Nat → Prop) (R : Nat) (nds : List Nd) (d dp m : Nat) (w : World) (o : Rs) (e : Ending) (w' : World) : Prop :=
  match o with
  | none => e = .panicked noForm ∧ Frm R w w'
  | some (s, r) => ∃ kv, e = .returned kv ∧ (KidsAt w' (R + 1) kv ((s.kidsL nds.length).map fun k : Nat => (k : Int)) ∧ ∀ g, kv.ownBlock = some g → ¬ X g) ∧ Frm R w w' ∧ ∃ tv', RdAt X R w' tv' r (nds ++ s.emit nds.length) d (max dp (d + s.nest)) (max m s.most)
theorem kids_set {w : World} {R i : Nat} {kv v : Value} {ks : List Int} (h : KidsAt w (R + 1) kv ks) : KidsAt (w.setCell ⟨R, i, none⟩ v) (R + 1) kv ks :=
  owns_grown h (fun k hk hv => heap_setCell_other _ _ _ _ (by have := (h.lt k hv).1; show k ≠ R; omega))
set_option maxRecDepth 100000 in
set_option maxHeartbeats 4000000 in
theorem enc_int (o : Tk) (l : List Tk) (ho : o.kind = 6) (h : RdOk 60 [] (rd (.chain 1) l) l) (R : Nat) (w : World) (tv : Value) (nds : List Nd) (d dp m : Nat) (hr : RdAt X R w tv (o :: l) nds d dp m) (hf : Fit (o :: l) nds d dp m) :
    Calls Tryz.prog 246 #[.pointer (some ⟨R, 0, none⟩), .func (.func 60) #[.pointer (some ⟨R, 0, none⟩)] #[]] w (RdPost X R nds d dp m w (closeS (rd (.chain 1) l) (.par o))) := by
  have HH := hide h
  have HF := hide hf
  have hdl : d + l.length + 1 ≤ 3000 := by have := hf.deep; rw [List.length_cons] at this; omega
  have HTK := hide (take_ok R w tv o l _ d _ _ hr (by omega))
  rw [ho] at HTK
  obtain ⟨O, hO⟩ : ∃ O, rd (.chain 1) l = O := ⟨_, rfl⟩
  have HQ := hide hO
  rw [hO]
  clear h hr hf hO
  go_enter Tryz.func246, Tryz.ntmps246
  go_wp2_with fail
  refine (unhide HTK).mono ?_
  rintro e wc ⟨rfl, rc, fc⟩
  have HRC := hide rc
  have FA := hide fc
  obtain ⟨k2, f2⟩ := rc.cell2
  clear rc fc HTK
  have HC := hide (unhide HH X R _ tv nds (d + 1) dp m ((unhide HRC).deep (d + 1)) (by
    have hf := fit_tail (unhide HF)
    exact ⟨hf.text, hf.nodes, by omega, hf.dp, hf.most⟩))
  replace FA := hide ((unhide FA).set 2 (.int .i64 ((d + 1 : Nat) : Int)))
  clear HH HRC
  simp only [List.toArray, Int.natCast_add, Int.cast_ofNat_Int] at HC FA
  rw [unhide HQ] at HC
  unfold RdPost at HC
  cases O with
  | none =>
    simp only [] at HC
    go_wp2_with fail
    refine (unhide HC).mono ?_
    rintro e w1 ⟨rfl, hf⟩
    have FB := hide ((unhide FA).trans hf)
    clear hf
    go_wp2
    exact ⟨rfl, rfl, unhide FB⟩
  | some p =>
    obtain ⟨s, r⟩ := p
    simp only [] at HC
    go_wp2_with fail
    refine (unhide HC).mono ?_
    rintro e w1 ⟨rfl, hf, tv1, r1⟩
    have HR1 := hide r1
    replace FA := hide ((unhide FA).trans hf)
    obtain ⟨k3, f3⟩ := r1.cell2
    simp only [Int.natCast_add, Int.cast_ofNat_Int] at k3
    clear hf r1 HC k2 f2
    have HR2 := hide ((unhide HR1).deep d)
    replace FA := hide ((unhide FA).set 2 (.int .i64 (d : Int)))
    clear HR1
    by_cases hk : (headT r).kind = 7
    · cases r with
      | nil => exact absurd hk (by rw [show headT [] = noT from rfl]; decide)
      | cons c r =>
        have hk : c.kind = 7 := hk
        have HK7 := hide hk
        have hlen : r.length ≤ 1000000 := by
          have h1 := (unhide HF).nodes
          have h3 := congrArg List.length (rd_toks (unhide HQ))
          simp only [Md.left, List.nil_append, List.length_append, List.length_cons] at h1 h3
          omega
        have HT2 := hide (take_ok R _ tv1 c r _ d _ _ (unhide HR2) hlen)
        rw [hk] at HT2
        clear hk HR2
        go_wp2_with fail
        refine (unhide HT2).mono ?_
        rintro e we ⟨rfl, re, fe⟩
        have HRE := hide re
        replace FA := hide ((unhide FA).trans fe)
        clear re fe
        go_wp2
        refine bodyPost_ret (v := .int .i64 ((nds.length + s.size - 1 : Nat) : Int)) (results_t1 rfl _ _ _ rfl) rfl ?_
        rw [close_yes rfl (unhide HK7)]
        exact ⟨rfl, unhide FA, tv1, (unhide HRE).cast rfl (by simp only [Syn.nest]; omega) rfl⟩
    · have HK7 := hide hk
      have HT2 := hide (take_bad R _ tv1 r _ d _ _ 7 (unhide HR2) hk)
      clear hk HR2
      go_wp2_with fail
      refine (unhide HT2).mono ?_
      rintro e we ⟨rfl, fe⟩
      have FB := hide ((unhide FA).trans fe)
      clear fe
      go_wp2
      refine ⟨rfl, ?_⟩
      rw [close_no rfl (unhide HK7)]
      exact ⟨rfl, unhide FB⟩
set_option maxRecDepth 100000 in
set_option maxHeartbeats 4000000 in
theorem enc_args (o : Tk) (l : List Tk) (ho : o.kind = 6) (h : ArOk l) (R : Nat) (w : World) (tv : Value) (nds : List Nd) (d dp m : Nat) (hr : RdAt X R w tv (o :: l) nds d dp m) (hf : Fit (o :: l) nds d dp m) (hdp : d ≤ dp) :
    Calls Tryz.prog 262 #[.pointer (some ⟨R, 0, none⟩), .func (.func 263) #[.pointer (some ⟨R, 0, none⟩)] #[]] w (EnPost X R nds d dp m w (closeS (rd .args l) (fun s _ => s))) := by
  have HH := hide h
  have HF := hide hf
  have hdl : d + l.length + 1 ≤ 3000 := by have := hf.deep; rw [List.length_cons] at this; omega
  have HTK := hide (take_ok R w tv o l _ d _ _ hr (by omega))
  rw [ho] at HTK
  obtain ⟨O, hO⟩ : ∃ O, rd .args l = O := ⟨_, rfl⟩
  have HQ := hide hO
  rw [hO]
  clear h hr hf hO
  go_enter Tryz.func262, Tryz.ntmps262
  go_wp2_with fail
  refine (unhide HTK).mono ?_
  rintro e wc ⟨rfl, rc, fc⟩
  have HRC := hide rc
  have FA := hide fc
  obtain ⟨k2, f2⟩ := rc.cell2
  clear rc fc HTK
  have HC := hide (unhide HH X R _ tv nds d dp m ((unhide HRC).deep (d + 1)) (by
    have hf := fit_tail (unhide HF)
    exact ⟨hf.text, hf.nodes, by omega, hf.dp, hf.most⟩) hdp)
  replace FA := hide ((unhide FA).set 2 (.int .i64 ((d + 1 : Nat) : Int)))
  clear HH HRC
  simp only [List.toArray, Int.natCast_add, Int.cast_ofNat_Int] at HC FA
  rw [unhide HQ] at HC
  unfold ArPost at HC
  cases O with
  | none =>
    simp only [] at HC
    go_wp2_with fail
    refine (unhide HC).mono ?_
    rintro e w1 ⟨rfl, hf⟩
    have FB := hide ((unhide FA).trans hf)
    clear hf
    go_wp2
    exact ⟨rfl, rfl, unhide FB⟩
  | some p =>
    obtain ⟨s, r⟩ := p
    simp only [] at HC
    go_wp2_with fail
    refine (unhide HC).mono ?_
    rintro e w1 ⟨kv, rfl, kd, hf, tv1, r1⟩
    have KD := hide (kids_set (i := 2) (v := .int .i64 (d : Int)) kd.1)
    have KX := hide kd.2
    clear kd
    have HR1 := hide r1
    replace FA := hide ((unhide FA).trans hf)
    obtain ⟨k3, f3⟩ := r1.cell2
    simp only [Int.natCast_add, Int.cast_ofNat_Int] at k3
    clear hf r1 HC k2 f2
    have HR2 := hide ((unhide HR1).deep d)
    replace FA := hide ((unhide FA).set 2 (.int .i64 (d : Int)))
    clear HR1
    by_cases hk : (headT r).kind = 7
    · cases r with
      | nil => exact absurd hk (by rw [show headT [] = noT from rfl]; decide)
      | cons c r =>
        have hk : c.kind = 7 := hk
        have HK7 := hide hk
        have hlen : r.length ≤ 1000000 := by
          have h1 := (unhide HF).nodes
          have h3 := congrArg List.length (rd_toks (unhide HQ))
          simp only [Md.left, List.nil_append, List.length_append, List.length_cons] at h1 h3
          omega
        have HT2 := hide (take_ok R _ tv1 c r _ d _ _ (unhide HR2) hlen)
        rw [hk] at HT2
        clear hk HR2
        go_wp2_with fail
        refine (unhide HT2).mono ?_
        rintro e we ⟨rfl, re, fe⟩
        have HRE := hide re
        replace FA := hide ((unhide FA).trans fe)
        replace KD := hide (fe.kids (unhide KD) (by omega))
        clear re fe
        go_wp2
        refine bodyPost_ret (v := kv) (results_t1 rfl _ _ _ rfl) rfl ?_
        rw [close_yes rfl (unhide HK7)]
        exact ⟨kv, rfl, ⟨unhide KD, unhide KX⟩, unhide FA, tv1, unhide HRE⟩
    · have HK7 := hide hk
      have HT2 := hide (take_bad R _ tv1 r _ d _ _ 7 (unhide HR2) hk)
      clear hk HR2
      go_wp2_with fail
      refine (unhide HT2).mono ?_
      rintro e we ⟨rfl, fe⟩
      have FB := hide ((unhide FA).trans fe)
      clear fe
      go_wp2
      refine ⟨rfl, ?_⟩
      rw [close_no rfl (unhide HK7)]
      exact ⟨rfl, unhide FB⟩
end Go.Proofs.YtloamahbghjjgaaGreatDoor

namespace Go.Proofs.YtloamahbghjjgaaGreatDoor
open Go.RowKit
variable {X : Nat → Prop}

abbrev orBlock (X : Nat → Prop) (g : Nat) : Nat → Prop := fun x => X x ∨ x = g
theorem RdAt.bar {R : Nat} {w : World} {tv : Value} {l : List Tk} {nds : List Nd} {d dp m : Nat} (h : RdAt X R w tv l nds d dp m) (o : Obj) : RdAt (orBlock X w.heap.size) R (w.alloc o) tv l nds d dp m := by
  have h2 := h.nx (below_al w o)
  obtain ⟨ps, p1, p2, p3⟩ := h.row
  obtain ⟨qs, q1, q2, q3⟩ := h2.row
  refine ⟨h2.cells, ⟨ps, p1, (p2.alloc o), fun p hp => ⟨kids_below (p3 p hp).1 (below_al w o), fun g hg hx => ?_⟩⟩, fun x hx => ?_⟩
  · rcases hx with hx | hx
    · exact (p3 p hp).2 g hg hx
    · have := ((p3 p hp).1.lt g hg).2
      omega
  · rcases hx with hx | hx
    · have := h.lim x hx; simp; omega
    · simp; omega
theorem RdAt.less {R g : Nat} {w : World} {tv : Value} {l : List Tk} {nds : List Nd} {d dp m : Nat} (h : RdAt (orBlock X g) R w tv l nds d dp m) : RdAt X R w tv l nds d dp m := by
  obtain ⟨ps, p1, p2, p3⟩ := h.row
  exact ⟨h.cells, ⟨ps, p1, p2, fun p hp => ⟨(p3 p hp).1, fun g hg hx => (p3 p hp).2 g hg (Or.inl hx)⟩⟩, fun x hx => h.lim x (Or.inl hx)⟩
theorem RdAt.grown {R g g' : Nat} {w w' : World} {tv : Value} {l : List Tk} {nds : List Nd} {d dp m : Nat} {cur : Array Value} (h : RdAt (orBlock X g) R w tv l nds d dp m) (hg : w.heap[g]? = some (.cells cur 3 (0, 0))) (hR : R < g) (hgr : w.grownBy w' (some g))
    (hn : g' = g ∨ g' = w.heap.size) (hlt : g' < w'.heap.size) : RdAt (orBlock X g') R w' tv l nds d dp m := by
  obtain ⟨a, cap, h1, h2, h3, h4⟩ := h.cells
  obtain ⟨ps, p1, p2, p3⟩ := h.row
  have hRl := cells_lt h1
  have hsame : ∀ k, k < w.heap.size → k ≠ g → w'.heap[k]? = w.heap[k]? := fun k hk hn => hgr.block k hk (fun e => hn (by cases e; rfl))
  refine ⟨⟨a, cap, ?_, h2, toks_old h3 h4 (fun k hk => hsame k (by omega) (by omega)) hgr.size, h4⟩, ⟨ps, p1, owns_grown p2 (fun k hk hv => hsame k hk (fun e => ?_)), fun p hp => ⟨owns_grown (p3 p hp).1 (fun k hk hv => hsame k hk (fun e => ?_)), fun x hx hxx => ?_⟩⟩, fun x hx => ?_⟩
  · unfold CellsAt at h1 ⊢
    rw [hsame R hRl (by omega)]; exact h1
  · obtain ⟨c, hc⟩ := owns_type p2 hv
    rw [e, hg] at hc
    cases hc
  · exact (p3 p hp).2 k hv (Or.inr e)
  · rcases hxx with hxx | hxx
    · exact (p3 p hp).2 x hx (Or.inl hxx)
    · rcases hn with hn | hn
      · exact (p3 p hp).2 x hx (Or.inr (by omega))
      · have := ((p3 p hp).1.lt x hx).2; omega
  · rcases hx with hx | hx
    · exact Nat.lt_of_lt_of_le (h.lim x (Or.inl hx)) hgr.size
    · omega
theorem Frm.grown {R g : Nat} {w0 w w' : World} (h : Frm R w0 w) (hg : w.grownBy w' (some g)) (hb : w0.heap.size ≤ g) : Frm R w0 w' := by
  refine ⟨hg.os.trans h.os, hg.tape.trans h.tape, hg.output.trans h.output, Nat.le_trans h.size hg.size, fun k hk hR hn => ?_⟩
  rw [hg.block k (Nat.lt_of_lt_of_le hk h.size) (fun e => by cases e; omega)]
  exact h.block k hk hR hn
theorem Frm.owns {R n : Nat} {w w' : World} {v : Value} {xs : List Value} (h : Frm R w w') (hk : w.ownsRow (R + 1) 3 1 v n xs) : w'.ownsRow (R + 1) 3 1 v n xs :=
  owns_grown hk (fun k hlt hv => h.block k hlt (by have := (hk.lt k hv).1; omega) (Or.inr fun cur fr e => by
    obtain ⟨c, hc⟩ := owns_type hk hv
    rw [hc] at e
    cases e))
def valsL (ks : List Nat) : List Value := (ks.map fun k : Nat => (k : Int)).map fun k => Value.int .i64 k
structure AgAt (X : Nat → Prop) (l : List Tk) (O : Rs) (R : Nat) (nds : List Nd) (d dp m : Nat) (w0 : World) (a : Syn) (li : List Tk) (g cap : Nat) (w : World) : Prop where
  all : O = rd (.more a) li
  toks : l = a.toks ++ li
  wf : a.wf 9
  ne : a ≠ .nil
  frm : Frm R w0 w
  kids : w.ownsRow (R + 1) 3 1 (.slice (some ⟨g, 0, none⟩) (a.kidsL nds.length).length cap) (a.kidsL nds.length).length (valsL (a.kidsL nds.length))
  new : w0.heap.size ≤ g
  at_ : ∃ tv, RdAt (orBlock X g) R w tv li (nds ++ a.emit nds.length) (d + 1) (max dp (d + a.nest)) (max m a.most)
theorem AgAt.stop {l : List Tk} {O : Rs} {R : Nat} {nds : List Nd} {d dp m : Nat} {w0 w : World} {a : Syn} {li : List Tk} {g cap : Nat} (h : AgAt X l O R nds d dp m w0 a li g cap w) (hl : (headT li).kind ≠ 8) : O = some (a, li) := by
  rw [h.all]
  cases li with
  | nil => rfl
  | cons t l2 =>
    have hl : t.kind ≠ 8 := hl
    rw [rd_more, if_neg hl]
theorem AgAt.out {l : List Tk} {O : Rs} {R : Nat} {nds : List Nd} {d dp m : Nat} {w0 w : World} {a : Syn} {t : Tk} {l2 : List Tk} {g cap : Nat} (h : AgAt X l O R nds d dp m w0 a (t :: l2) g cap w) (ht : t.kind = 8) (hb : rd (.chain 1) l2 = none) : O = none := by
  rw [h.all, rd_more, if_pos ht, hb]
theorem AgAt.fit {l : List Tk} {O : Rs} {R : Nat} {nds : List Nd} {d dp m : Nat} {w0 w : World} {a : Syn} {li : List Tk} {g cap : Nat} (h : AgAt X l O R nds d dp m w0 a li g cap w) (hf : Fit l nds (d + 1) dp m) : Fit li (nds ++ a.emit nds.length) (d + 1) (max dp (d + a.nest)) (max m a.most) := by
  have := fit_next hf h.toks h.wf
  exact ⟨this.text, this.nodes, this.deep, by have := this.dp; omega, this.most⟩
theorem AgAt.step {l : List Tk} {O : Rs} {R : Nat} {nds : List Nd} {d dp m : Nat} {w0 w w' : World} {a b : Syn} {t : Tk} {l2 l3 : List Tk} {g cap g' cap' : Nat} {tv : Value} (h : AgAt X l O R nds d dp m w0 a (t :: l2) g cap w) (ht : t.kind = 8)
    (hb : rd (.chain 1) l2 = some (b, l3)) (hf : Frm R w0 w') (hk : w'.ownsRow (R + 1) 3 1 (.slice (some ⟨g', 0, none⟩) ((a.kidsL nds.length).length + 1) cap') ((a.kidsL nds.length).length + 1) (valsL (a.kidsL nds.length) ++ [.int .i64 ((((nds ++ a.emit nds.length).length + b.size - 1 : Nat)) : Int)]))
    (hg : w0.heap.size ≤ g') (hr : RdAt (orBlock X g') R w' tv l3 ((nds ++ a.emit nds.length) ++ b.emit (nds ++ a.emit nds.length).length) (d + 1) (max (max dp (d + a.nest)) (d + 1 + b.nest)) (max (max m a.most) b.most)) :
    AgAt X l O R nds d dp m w0 (.snoc a t b) l3 g' cap' w' := by
  have e1 : (Syn.snoc a t b).kidsL nds.length = a.kidsL nds.length ++ [(nds ++ a.emit nds.length).length + b.size - 1] := by
    simp only [Syn.kidsL, List.length_append, emit_len]
  refine ⟨?_, ?_, ⟨rfl, h.wf, h.ne, ht, ?_⟩, by simp, hf, ?_, hg, tv, hr.cast ?_ ?_ ?_⟩
  · rw [h.all, rd_more, if_pos ht, hb]
  · have := rd_toks hb
    simp only [Md.left, List.nil_append] at this
    rw [h.toks, this]; simp [Syn.toks]
  · have := rd_wf hb (Nat.le_refl 1)
    simpa [Md.lev] using this
  · rw [e1, List.length_append, List.length_singleton]
    have e2 : valsL (a.kidsL nds.length ++ [(nds ++ a.emit nds.length).length + b.size - 1]) = valsL (a.kidsL nds.length) ++ [.int .i64 ((((nds ++ a.emit nds.length).length + b.size - 1 : Nat)) : Int)] := by
      simp [valsL]
    rw [e2]; exact hk
  · rw [List.length_append, emit_len]; simp [Syn.emit]
  · simp only [Syn.nest]; omega
  · simp only [Syn.most]; omega
def argO (O : Rs) : Rs := match O with | none => none | some p => rd (.more (.first p.1)) p.2
theorem rd_args_go {l : List Tk} (h : (headT l).kind ≠ 7) : rd .args l = argO (rd (.chain 1) l) := by
  cases l with
  | nil =>
    rw [rd_args_nil]
    cases hc : rd (.chain 1) [] with
    | none => rfl
    | some p => have := rd_short hc; simp at this
  | cons t l =>
    have h : t.kind ≠ 7 := h
    rw [rd_args, if_neg h]; rfl
theorem infoInt : (Tryz.prog.info? 3).map (fun i => (i.zero, i.size, i.bytes)) = some (some (.int .i64 0), 1, 8) := by kernel_rfl
set_option maxRecDepth 100000 in
set_option maxHeartbeats 4000000 in
theorem args_none (l : List Tk) (h7 : (headT l).kind = 7) : ArOk l := by
  intro X R w tv nds d dp m hr hf hdp
  have HA := hide (ahead_val R w tv l nds (d + 1) dp m hr)
  have HR := hide hr
  have fl0 := tk_fld0 (headT l)
  rw [h7] at fl0
  have e : rd .args l = some (.nil, l) := by
    cases l with
    | nil => exact absurd h7 (by decide)
    | cons t l =>
      have h7 : t.kind = 7 := h7
      rw [rd_args, if_pos h7]
  rw [e]
  clear hr hf e h7
  generalize headT l = T at HA fl0
  go_enter Tryz.func263, Tryz.ntmps263
  go_wp2_with fail
  refine (unhide HA).mono ?_
  rintro e w1 ⟨rfl, b1⟩
  have HB := hide b1
  clear b1
  go_wp2
  refine bodyPost_ret (v := .slice none 0 0) (results_t1 rfl _ _ _ rfl) rfl ?_
  unfold ArPost
  exact ⟨_, rfl, kidsX_nil _ _, Frm.of (unhide HB), tv, ((unhide HR).nx (unhide HB)).cast (by simp [Syn.emit]) (by simp only [Syn.nest]; omega) (by simp [Syn.most])⟩
set_option maxRecDepth 100000 in
set_option maxHeartbeats 4000000 in
theorem args_some (l : List Tk) (h7 : (headT l).kind ≠ 7) (h : ∀ l', l'.length ≤ l.length → RdOk 60 [] (rd (.chain 1) l') l') : ArOk l := by
  intro X R w tv nds d dp m hr hf hdp
  obtain ⟨i0, hi, hz0, hz1, hz2⟩ := info_parts infoInt
  have HA := hide (ahead_val R w tv l nds (d + 1) dp m hr)
  have HR := hide hr
  have HF := hide hf
  have HH := hide h
  have hRlt := hr.lt
  have fl0 := tk_fld0 (headT l)
  obtain ⟨O, hO⟩ : ∃ O, rd .args l = O := ⟨_, rfl⟩
  have HO : Hid (O = argO (rd (.chain 1) l)) := hide (by rw [← hO]; exact rd_args_go h7)
  rw [hO]
  clear hr hf h hO
  go_enter Tryz.func263, Tryz.ntmps263
  go_wp2_with fail
  refine (unhide HA).mono ?_
  rintro e wa ⟨rfl, ba⟩
  have HRA := hide ((unhide HR).nx ba)
  have FA : Hid (Frm R w wa) := hide (Frm.of ba)
  have hwa := ba.size
  clear ba HA
  have HC := hide (unhide HH l (Nat.le_refl _) X R wa tv nds (d + 1) dp m (unhide HRA) (unhide HF))
  simp only [List.toArray] at HC
  unfold RdPost at HC
  cases ho : rd (.chain 1) l with
  | none =>
    have e : O = none := by rw [unhide HO, ho]; rfl
    rw [ho] at HC
    simp only [] at HC
    subst e
    clear ho HH HO
    go_wp2_with fail
    refine (unhide HC).mono ?_
    rintro e w1 ⟨rfl, hf⟩
    have FB := hide ((unhide FA).trans hf)
    clear hf
    go_wp2
    exact ⟨rfl, rfl, unhide FB⟩
  | some p =>
    obtain ⟨s, l1⟩ := p
    rw [ho] at HC
    simp only [] at HC
    have H0 : Hid (O = rd (.more (.first s)) l1 ∧ l = s.toks ++ l1 ∧ s.wf 1) := hide (by
      refine ⟨by rw [unhide HO, ho]; rfl, rd_toks ho, ?_⟩
      have := rd_wf ho (Nat.le_refl 1)
      simpa [Md.lev] using this)
    clear ho HO
    obtain ⟨pa, hpa⟩ : ∃ pa : Nat, nds.length + s.size - 1 = pa := ⟨_, rfl⟩
    have PA := hide hpa
    rw [hpa] at HC
    clear hpa
    go_wp2_with fail
    refine (unhide HC).mono ?_
    rintro e w1 ⟨rfl, f1, tv1, r1⟩
    have hw1 := f1.size
    have A0 : Hid (AgAt X l O R nds d dp m w (.first s) l1 w1.heap.size 1 (w1.alloc (.cells #[.int .i64 (pa : Int)] 3))) := hide (by
      refine ⟨(unhide H0).1, (unhide H0).2.1, ⟨rfl, (unhide H0).2.2⟩, by simp, ((unhide FA).trans f1).trans (Frm.of (below_al _ _)), ?_, by omega, tv1, (r1.bar _).cast rfl (by simp only [Syn.nest]; omega) rfl⟩
      have := (kidsX_one r1 (pa : Int)).1
      show World.ownsRow _ _ _ _ _ _ (valsL [nds.length + s.size - 1])
      rw [unhide PA]
      exact this)
    clear f1 r1 H0 HC FA HRA
    go_wp2_with fail
    go_loopw [3] (fun v wr => ∃ (a : Syn) (li : List Tk) (g cap : Nat), v = .slice (some ⟨g, 0, none⟩) (a.kidsL nds.length).length cap ∧ Hid (AgAt X l O R nds d dp m w a li g cap wr)) (fun _ wr => restLen (wr.cell? ⟨R, 0, none⟩))
    case atStart => exact ⟨.first s, l1, _, 1, rfl, A0⟩
    case round =>
      clear A0 PA
      obtain ⟨a, li, g, cap, rfl, HA⟩ := hrel
      obtain ⟨tva, hRA⟩ := (unhide HA).at_
      have HRA := hide hRA
      have HAH := hide (ahead_val R wr tva li _ (d + 1) _ _ hRA)
      have HFI := hide ((unhide HA).fit (unhide HF))
      have HLE := hide (rest_len hRA)
      clear hRA
      have fh := tk_fld0 (headT li)
      clear fl0
      by_cases hl : (headT li).kind = 8
      · rw [hl] at fh
        cases li with
        | nil => exact absurd hl (by rw [show headT [] = noT from rfl]; decide)
        | cons t l2 =>
          have hl : t.kind = 8 := hl
          have HL := hide hl
          rw [show headT (t :: l2) = t from rfl] at HAH fh
          clear hl
          go_wp2_with fail
          refine (unhide HAH).mono ?_
          rintro e wb ⟨rfl, bb⟩
          have HRB := hide ((unhide HRA).nx bb)
          have FA : Hid (Frm R wr wb) := hide (Frm.of bb)
          clear bb HAH HRA
          have HTK := hide (take_ok R wb tva t l2 _ (d + 1) _ _ (unhide HRB) (by have := (unhide HFI).nodes; simp only [List.length_cons] at this; omega))
          rw [unhide HL] at HTK
          go_wp2_with fail
          refine (unhide HTK).mono ?_
          rintro e wc ⟨rfl, rc, fc⟩
          have HRC := hide rc
          replace FA := hide ((unhide FA).trans fc)
          clear rc fc HTK HRB
          have HFT := hide (fit_tail (unhide HFI))
          have HCC := hide (unhide HH l2 (by have := congrArg List.length (unhide HA).toks; simp only [List.length_append, List.length_cons] at this; omega) (orBlock X g) R wc tva _ (d + 1) _ _ (unhide HRC) (unhide HFT))
          simp only [List.toArray] at HCC
          unfold RdPost at HCC
          clear HH HFT
          cases hb : rd (.chain 1) l2 with
          | none =>
            have hO := (unhide HA).out (unhide HL) hb
            rw [hb] at HCC
            simp only [] at HCC
            subst hO
            clear hb
            go_wp2_with fail
            refine (unhide HCC).mono ?_
            rintro e wd ⟨rfl, fd⟩
            have FD := hide ((unhide HA).frm.trans ((unhide FA).trans fd))
            clear fd
            go_wp2
            exact ⟨rfl, rfl, unhide FD⟩
          | some p =>
            obtain ⟨b, l3⟩ := p
            rw [hb] at HCC
            simp only [] at HCC
            have HB := hide hb
            clear hb
            obtain ⟨pb, hpb⟩ : ∃ pb : Nat, (nds ++ a.emit nds.length).length + b.size - 1 = pb := ⟨_, rfl⟩
            have PB := hide hpb
            rw [hpb] at HCC
            clear hpb
            obtain ⟨c, hc⟩ : ∃ c, (a.kidsL nds.length).length = c := ⟨_, rfl⟩
            have HCn := hide hc
            rw [hc]
            clear hc
            have hcle : c ≤ 3100 := by
              have h1 := (size_toks a).2
              have h2 := kids_len a nds.length
              have h3 := congrArg List.length (unhide HA).toks
              have h4 := (unhide HF).nodes
              have h5 := unhide HCn
              simp only [List.length_append, List.length_cons] at h3
              omega
            go_wp2_with fail
            refine (unhide HCC).mono ?_
            rintro e wd ⟨rfl, fd, tvd, rd'⟩
            have HRD := hide rd'
            replace FA := hide ((unhide FA).trans fd)
            clear rd' fd HCC HRC
            have HKD : Hid (wd.ownsRow (R + 1) 3 1 (.slice (some ⟨g, 0, none⟩) c cap) c (valsL (a.kidsL nds.length))) := hide (by
              have := (unhide FA).owns (unhide HA).kids
              rw [unhide HCn] at this
              exact this)
            have hRd := (unhide HRD).lt
            have hgd := ((unhide HKD).lt g rfl).2
            have hgR := ((unhide HKD).lt g rfl).1
            go_wp2_with (at_builtin; refine wpList_append_lies _ rfl _ _ 53 rfl (R + 1) 3 i0 (.int .i64 0) 1 8 Tryz.underlying53 hi hz0 hz1 hz2 rfl (by decide) _ _ _ rfl ((unhide HKD).alloc _) ⟨wd.heap.size, 0, none⟩ 1 1 [.int .i64 (pb : Int)] rfl rfl (World.news_of_block (heap_alloc_new _ _)) (by simp [Value.oneCell']) (by omega) (by unfold maxLen; omega) (by omega) (by simp; omega) _ rfl ?_)
            intro g' cap' we hown' hgrow hor hlt
            have hbd := below_al wd (.cells #[.int .i64 (pb : Int)] 3)
            have hor' : g' = g ∨ g' = (wd.alloc (.cells #[.int .i64 (pb : Int)] 3)).heap.size := by
              rcases hor with h | h
              · exact Or.inl (by simpa [Value.ownBlock] using h.symm)
              · exact Or.inr (by simpa using h)
            have hgb : ∃ cur, (wd.alloc (.cells #[.int .i64 (pb : Int)] 3)).heap[g]? = some (.cells cur 3 (0, 0)) := owns_type ((unhide HKD).alloc _) rfl
            obtain ⟨cur, hcur⟩ := hgb
            have hnew := (unhide HA).new
            have HN : Hid (AgAt X l O R nds d dp m w (.snoc a t b) l3 g' cap' we) := hide (by
              refine (unhide HA).step (unhide HL) (unhide HB) ((((unhide HA).frm.trans (unhide FA)).trans (Frm.of hbd)).grown hgrow hnew) ?_ ?_ (tv := tvd) (((unhide HRD).nx hbd).grown hcur (by omega) hgrow hor' hlt)
              · rw [unhide HCn, unhide PB]; exact hown'
              · have h1 := (unhide HA).frm.size
                have h2 := (unhide FA).size
                rcases hor' with h | h
                · omega
                · simp at h; omega)
            have hcs : ((Syn.snoc a t b).kidsL nds.length).length = c + 1 := by
              simp only [Syn.kidsL, List.length_append, List.length_singleton]
              rw [unhide HCn]
            have HCS := hide hcs
            clear hown' hgrow hor hor' hlt hbd hcur hnew HKD hcs
            go_wp2
            go_roundw
            case rel => exact ⟨.snoc a t b, l3, g', cap', by rw [unhide HCS], HN⟩
            case measure =>
              obtain ⟨tvx, hx⟩ := (unhide HN).at_
              rw [rest_len hx, unhide HLE]
              have := rd_short (unhide HB)
              simp only [List.length_cons]; omega
      · have hO := (unhide HA).stop hl
        subst hO
        have hne : ((headT li).kind == 8) = false := by simpa using hl
        go_wp2_with fail
        refine (unhide HAH).mono ?_
        rintro e wb ⟨rfl, bb⟩
        have HRB := hide ((unhide HRA).nx bb)
        have FA : Hid (Frm R wr wb) := hide (Frm.of bb)
        clear bb HAH HRA
        go_wp2
        refine bodyPost_ret (v := .slice (some ⟨g, 0, none⟩) (a.kidsL nds.length).length cap) (results_t1 rfl _ _ _ rfl) rfl ?_
        unfold ArPost
        refine ⟨_, rfl, ⟨?_, ?_⟩, (unhide HA).frm.trans (unhide FA), tva, (unhide HRB).less⟩
        · have := (unhide FA).owns (unhide HA).kids
          unfold KidsAt
          rw [List.length_map]
          exact this
        · intro x hx hxx
          cases hx
          have h1 := (unhide HR).lim g hxx
          have h2 := (unhide HA).new
          omega
end Go.Proofs.YtloamahbghjjgaaGreatDoor

namespace Go.Proofs.YtloamahbghjjgaaGreatDoor
open Go.RowKit

def IntsIn (w : World) (a : Option Addr) (ks : List Int) : Prop :=
  ks = [] ∨ ∃ g off, a = some ⟨g, off, none⟩ ∧ g < w.heap.size ∧ ∀ (i : Nat) (k : Int), ks[i]? = some k → w.cell? ⟨g, off + i, none⟩ = some (.int .i64 k)
theorem ints_below {w w' : World} {a : Option Addr} {ks : List Int} (h : IntsIn w a ks) (hb : Below w.heap.size w w') : IntsIn w' a ks := by
  rcases h with h | ⟨g, off, rfl, hg, hc⟩
  · exact Or.inl h
  · exact Or.inr ⟨g, off, rfl, Nat.lt_of_lt_of_le hg hb.size, fun i k hi => by rw [hb.cell (p := ⟨g, off + i, none⟩) hg]; exact hc i k hi⟩
theorem ints_drew {w : World} {a : Option Addr} {ks : List Int} (h : IntsIn w a ks) : IntsIn w.drew a ks := h
theorem ints_of_owns {w : World} {B : Nat} {v : Value} {n : Nat} {ks : List Int} (h : w.ownsRow B 3 1 v n (ks.map fun k => Value.int .i64 k)) : ∃ a cap, v = .slice a n cap ∧ n ≤ cap ∧ n = ks.length ∧ IntsIn w a ks := by
  have hl : ks.length = n := by have := h.1; simpa using this
  rcases h.2 with ⟨rfl, h0⟩ | ⟨g, cap, cur, rfl, hg, hh, hc, _, hs, ht⟩
  · exact ⟨none, 0, by rw [h0], by omega, hl.symm, Or.inl (List.eq_nil_of_length_eq_zero (by omega))⟩
  · refine ⟨_, cap, rfl, hc, hl.symm, Or.inr ⟨g, 0, rfl, (Array.getElem?_eq_some_iff.1 hh).1, fun i k hi => ?_⟩⟩
    have h1 : (ks.map fun k => Value.int .i64 k)[i]? = some (.int .i64 k) := by rw [List.getElem?_map, hi]; rfl
    rw [← ht] at h1
    rw [cell_of_row w g _ cur _ (0, 0) hh, Nat.zero_add]
    rw [List.getElem?_take] at h1
    split at h1
    · simpa using h1
    · cases h1
theorem ints_of_kids {w : World} {B : Nat} {kv : Value} {ks : List Int} (h : KidsAt w B kv ks) : ∃ a cap, kv = .slice a ks.length cap ∧ ks.length ≤ cap ∧ IntsIn w a ks := by
  obtain ⟨a, cap, h1, h2, _, h4⟩ := ints_of_owns h
  exact ⟨a, cap, h1, h2, h4⟩
theorem ints_at {w : World} {a : Option Addr} {ks : List Int} (h : IntsIn w a ks) (i : Nat) (hi : i < ks.length) : ∃ g off, a = some ⟨g, off, none⟩ ∧ w.cell? ⟨g, off + i, none⟩ = some (.int .i64 (ks.getD i 0)) := by
  rcases h with h | ⟨g, off, rfl, hg, hc⟩
  · rw [h] at hi; simp at hi
  · refine ⟨g, off, rfl, hc i _ ?_⟩
    rw [List.getElem?_eq_getElem hi, List.getD_eq_getElem?_getD, List.getElem?_eq_getElem hi]; rfl
set_option maxHeartbeats 2000000 in
theorem sequal_val (a b : Option Addr) (ca cb : Nat) (xs ys : List Int) (w : World) (ha : IntsIn w a xs) (hb : IntsIn w b ys) (hx : xs.length ≤ 100000) :
    Calls Tryz.prog 121 #[.slice a xs.length ca, .slice b ys.length cb] w fun e w' => e = .returned (.bool (decide (xs = ys))) ∧ Below w.heap.size w w' := by
  have HA := hide ha
  have HB := hide hb
  clear ha hb
  obtain ⟨bq, hbq⟩ : ∃ bq, decide (xs = ys) = bq := ⟨_, rfl⟩
  have HQ := hide hbq
  rw [hbq]
  clear hbq
  by_cases hl : xs.length = ys.length
  · have hli : (xs.length : Int) = (ys.length : Int) := by omega
    obtain ⟨n, hn⟩ : ∃ n, ys.length = n := ⟨_, rfl⟩
    rw [hl] at hx ⊢
    rw [hn] at hx ⊢
    have HN := hide hn
    have HL := hide hl
    clear hli hn hl
    go_enter Tryz.func121, Tryz.ntmps121
    go_wp2_with fail
    go_loopw [13] (fun v wr => ∃ k : Nat, v = .int .i64 (k : Int) ∧ k ≤ n ∧ Hid (xs.take k = ys.take k) ∧ Hid (Below w.heap.size w wr)) (fun v _ => n - (intOf v).toNat)
    case atStart => exact ⟨0, rfl, by omega, hide rfl, hide (Below.refl _ _)⟩
    case round =>
      obtain ⟨k, rfl, hk, HT, HBW⟩ := hrel
      by_cases hlt : k < n
      · have hlti : (k : Int) < (n : Int) := by omega
        obtain ⟨g1, o1, rfl, x1⟩ := ints_at (ints_drew (ints_below (unhide HA) (unhide HBW))) k (by rw [unhide HL, unhide HN]; exact hlt)
        obtain ⟨g2, o2, rfl, x2⟩ := ints_at (ints_drew (ints_below (unhide HB) (unhide HBW))) k (by rw [unhide HN]; exact hlt)
        have hx1 : xs.take (k + 1) = xs.take k ++ [xs.getD k 0] := by
          rw [List.take_succ_eq_append_getElem (by rw [unhide HL, unhide HN]; exact hlt), List.getD_eq_getElem?_getD, List.getElem?_eq_getElem (by rw [unhide HL, unhide HN]; exact hlt)]; rfl
        have hx2 : ys.take (k + 1) = ys.take k ++ [ys.getD k 0] := by
          rw [List.take_succ_eq_append_getElem (by rw [unhide HN]; exact hlt), List.getD_eq_getElem?_getD, List.getElem?_eq_getElem (by rw [unhide HN]; exact hlt)]; rfl
        have HX1 := hide hx1
        have HX2 := hide hx2
        clear hx1 hx2
        generalize xs.getD k 0 = p at x1 HX1
        generalize ys.getD k 0 = q at x2 HX2
        have HBD := hide ((unhide HBW).drew)
        by_cases hpq : p = q
        · have hb1 : (p != q) = false := by simpa using hpq
          have HT2 : Hid (xs.take (k + 1) = ys.take (k + 1)) := hide (by rw [unhide HX1, unhide HX2, unhide HT, hpq])
          clear hpq
          go_upto_region 6 with fail
          go_region
          go_wp2
          go_roundw
          case rel => exact ⟨k + 1, by go_num, by omega, HT2, HBD⟩
          case measure => simp [intOf]; omega
        · have hb1 : (p != q) = true := by simpa using hpq
          have HD : Hid (bq = false) := hide (by
            rw [← unhide HQ]
            refine decide_eq_false fun e => ?_
            have h1 := unhide HX1
            have h2 := unhide HX2
            rw [e] at h1
            rw [h1] at h2
            have := List.append_cancel_left h2
            simp only [List.cons.injEq, and_true] at this
            exact hpq this)
          clear hpq
          go_upto_region 6 with fail
          go_region
          go_wp2
          go_ret
          exact ⟨by rw [unhide HD]; rfl, unhide HBD⟩
      · have hlti : ¬ (k : Int) < (n : Int) := by omega
        have HD : Hid (bq = true) := hide (by
          rw [← unhide HQ]
          refine decide_eq_true ?_
          have h1 := unhide HT
          rw [List.take_of_length_le (by rw [unhide HL, unhide HN]; omega), List.take_of_length_le (by rw [unhide HN]; omega)] at h1
          exact h1)
        go_wp2
        go_ret
        exact ⟨by rw [unhide HD]; rfl, unhide HBW⟩
  · have hlb : ((xs.length : Int) != (ys.length : Int)) = true := by
      simp only [bne_iff_ne, ne_eq]; omega
    have HD : bq = false := by rw [← unhide HQ]; exact decide_eq_false fun e => hl (by rw [e])
    subst HD
    clear hl
    go_enter Tryz.func121, Tryz.ntmps121
    go_wp2
    go_ret
    exact ⟨rfl, Below.refl _ _⟩
end Go.Proofs.YtloamahbghjjgaaGreatDoor

namespace Go.Proofs.YtloamahbghjjgaaGreatDoor
open Go.RowKit

def vEq (a b : Vl) : Bool := (a.kind == b.kind) && ((a.num == b.num) && ((a.text.toList == b.text.toList) && ((a.tr == b.tr) && (a.fail == b.fail))))

theorem vl_eq (k n : Int) (s : ByteArray) (b : Bool) (f : Int) (k' n' : Int) (s' : ByteArray) (b' : Bool) (f' : Int) (w : World) :
    (binOp .eql 46 (.agg #[.int .i64 k, .int .i64 n, .string s, .bool b, .int .i64 f]) (.agg #[.int .i64 k', .int .i64 n', .string s', .bool b', .int .i64 f'])).run Tryz.prog w
      = .ok (.bool (vEq ⟨k, n, s, b, f⟩ ⟨k', n', s', b', f'⟩)) w := by
  have hS : Tryz.prog.underlying 46 = some (.struct (Tryz.prog.fieldsOf 46)) := by kernel_rfl
  have hp : Tryz.prog.stoodInHeld 46 = false := by kernel_rfl
  have u1 := Tryz.underlying42
  have u2 := Tryz.underlying43
  have u3 := Tryz.underlying9
  have u4 := Tryz.underlying4
  have u5 := Tryz.underlying44
  have a1 := Tryz.isAgg42
  have a2 := Tryz.isAgg43
  have a3 := Tryz.isAgg9
  have a4 := Tryz.isAgg4
  have a5 := Tryz.isAgg44
  have z1 := Tryz.sizeOf42
  have z2 := Tryz.sizeOf43
  have z3 := Tryz.sizeOf9
  have z4 := Tryz.sizeOf4
  have z5 := Tryz.sizeOf44
  rw [run_eql_struct, show (10000 : Nat) = 9999 + 1 from rfl, run_equalIn_agg w 9999 46 _ _ hS hp]
  simp only [Program.fieldsOf, Tryz.underlying46]
  go_simp
  unfold vEq
  by_cases h1 : k = k'
  · by_cases h2 : n = n'
    · by_cases h3 : s.toList = s'.toList
      · by_cases h4 : b = b'
        · by_cases h5 : f = f'
          · simp [h1, h2, h3, h4, h5]
          · simp [h1, h2, h3, h4, h5]
        · simp [h1, h2, h3, h4]
      · simp [h1, h2, h3]
    · simp [h1, h2]
  · simp [h1]
end Go.Proofs.YtloamahbghjjgaaGreatDoor

namespace Go.Proofs.YtloamahbghjjgaaGreatDoor
open Go.RowKit


theorem five_cells {w : World} {B : Nat} {t : TypeId} {a b c d e : Value} (h : FiveAt w B t #[a, b, c, d, e]) :
    w.cell? ⟨B, 0, none⟩ = some a ∧ w.cell? ⟨B, 1, none⟩ = some b ∧ w.cell? ⟨B, 2, none⟩ = some c ∧ w.cell? ⟨B, 3, none⟩ = some d ∧ w.cell? ⟨B, 4, none⟩ = some e := by
  simp [World.cell?, h.1]

theorem five_drew {w : World} {B : Nat} {t : TypeId} {cs : Array Value} (h : FiveAt w B t cs) : FiveAt w.drew B t cs := h
theorem noText_list : noText.toList = [] := by rw [ByteArray.toList_eq]
theorem vGood0 (n : Int) (s : ByteArray) (b : Bool) (f : Int) : vGood ⟨0, n, s, b, f⟩ = ((n == 0) && (s.toList == []) && !b && (f == 0)) := rfl
theorem vGood1 (n : Int) (s : ByteArray) (b : Bool) (f : Int) : vGood ⟨1, n, s, b, f⟩ = (goodB n && (s.toList == []) && !b && (f == 0)) := rfl
theorem vGood2 (n : Int) (s : ByteArray) (b : Bool) (f : Int) : vGood ⟨2, n, s, b, f⟩ = ((n == 0) && decide (s.size ≤ 255) && !b && (f == 0)) := rfl
theorem vGood3 (n : Int) (s : ByteArray) (b : Bool) (f : Int) : vGood ⟨3, n, s, b, f⟩ = ((n == 0) && (s.toList == []) && (f == 0)) := rfl
theorem vGood4 (n : Int) (s : ByteArray) (b : Bool) (f : Int) : vGood ⟨4, n, s, b, f⟩ = ((n == 0) && (s.toList == []) && !b && decide (1 ≤ f) && decide (f ≤ 8)) := rfl
theorem vEq_mk (k n : Int) (s : ByteArray) (b : Bool) (f : Int) (k' n' : Int) (s' : ByteArray) (b' : Bool) (f' : Int) :
    vEq ⟨k, n, s, b, f⟩ ⟨k', n', s', b', f'⟩ = ((k == k') && ((n == n') && ((s.toList == s'.toList) && ((b == b') && (f == f'))))) := rfl
theorem vE_out (f : Int) (h : f < 1 ∨ 8 < f) : vE f = ⟨4, 0, noText, false, 3⟩ := by unfold vE; rw [if_pos h]
theorem vE_in (f : Int) (h : ¬ (f < 1 ∨ 8 < f)) : vE f = ⟨4, 0, noText, false, f⟩ := by unfold vE; rw [if_neg h]
theorem eq_blank (n : Int) (s : ByteArray) (b : Bool) (f : Int) : vEq ⟨0, n, s, b, f⟩ ⟨0, 0, noText, false, 0⟩ = vGood ⟨0, n, s, b, f⟩ := by
  rw [vGood0, vEq_mk, noText_list]
  cases b <;> simp [Bool.and_assoc]
theorem eq_num (n : Int) (s : ByteArray) (b : Bool) (f : Int) : vEq ⟨1, n, s, b, f⟩ (vN n) = vGood ⟨1, n, s, b, f⟩ := by
  rw [vGood1]
  unfold vN
  cases hg : goodB n
  · rw [if_neg (by simp), vE_in 2 (by omega), vEq_mk]; rfl
  · rw [if_pos rfl, vEq_mk, noText_list]; cases b <;> simp
theorem eq_text (n : Int) (s : ByteArray) (b : Bool) (f : Int) : vEq ⟨2, n, s, b, f⟩ (vT s) = vGood ⟨2, n, s, b, f⟩ := by
  rw [vGood2]
  unfold vT
  by_cases h : 255 < s.size
  · rw [if_pos h, show decide (s.size ≤ 255) = false from decide_eq_false (by omega), vE_in 3 (by omega), vEq_mk]; simp
  · rw [if_neg h, show decide (s.size ≤ 255) = true from decide_eq_true (by omega), vEq_mk]; cases b <;> simp
theorem eq_bool (n : Int) (s : ByteArray) (b : Bool) (f : Int) : vEq ⟨3, n, s, b, f⟩ (vB b) = vGood ⟨3, n, s, b, f⟩ := by
  rw [vGood3]
  unfold vB
  rw [vEq_mk, noText_list]
  cases b <;> simp [Bool.and_assoc]
theorem eq_err (n : Int) (s : ByteArray) (b : Bool) (f : Int) : vEq ⟨4, n, s, b, f⟩ (vE f) = vGood ⟨4, n, s, b, f⟩ := by
  rw [vGood4]
  by_cases h : f < 1 ∨ 8 < f
  · have h3 : (f == 3) = false := by rw [beq_eq_false_iff_ne]; omega
    rw [vE_out f h, vEq_mk, h3, noText_list]
    rcases h with h | h
    · rw [show decide (1 ≤ f) = false from decide_eq_false (by omega)]; cases b <;> simp
    · rw [show decide (f ≤ 8) = false from decide_eq_false (by omega)]; cases b <;> simp
  · rw [vE_in f h, vEq_mk, noText_list, show decide (1 ≤ f) = true from decide_eq_true (by omega), show decide (f ≤ 8) = true from decide_eq_true (by omega)]
    cases b <;> simp
theorem good_else (k n : Int) (s : ByteArray) (b : Bool) (f : Int) (h0 : k ≠ 0) (h1 : k ≠ 1) (h2 : k ≠ 2) (h3 : k ≠ 3) (h4 : k ≠ 4) : vGood ⟨k, n, s, b, f⟩ = false := by
  unfold vGood
  rw [if_neg h0, if_neg h1, if_neg h2, if_neg h3, if_neg h4]

set_option maxHeartbeats 4000000 in
theorem good3_val (v : Vl) (w : World) (hs : v.text.size ≤ 1000000) :
    Calls Tryz.prog 165 #[.agg v.cells] w fun e w' => e = .returned (.bool (vGood v)) ∧ Below w.heap.size w w' := by
  obtain ⟨k, n, s, b, f⟩ := v
  simp only [] at hs
  have HS := hide hs
  clear hs
  unfold Vl.cells
  simp only []
  by_cases k0 : k = 0
  · subst k0
    rw [← eq_blank]
    have hq := fun w => vl_eq 0 n s b f 0 0 noText false 0 w
    go_enter Tryz.func165, Tryz.ntmps165
    go_wp2
    go_ret
    exact ⟨rfl, below_al _ _⟩
  · have kb0 : (k == 0) = false := by rw [beq_eq_false_iff_ne]; exact k0
    by_cases k1 : k = 1
    · subst k1
      clear kb0 k0
      rw [← eq_num]
      obtain ⟨z, hz⟩ : ∃ z, vN n = z := ⟨_, rfl⟩
      have HC : Hid (∀ w : World, Calls Tryz.prog 201 #[.int .i64 n] w fun e w' => e = .returned (.agg z.cells) ∧ Below w.heap.size w w') := hide (fun w => by have h := n_val n w; rw [hz] at h; exact h)
      rw [hz]
      clear hz
      obtain ⟨k1, n1, s1, t1, f1⟩ := z
      unfold Vl.cells at HC
      simp only [] at HC
      have hq := fun w => vl_eq 1 n s b f k1 n1 s1 t1 f1 w
      go_enter Tryz.func165, Tryz.ntmps165
      go_wp2_with fail
      go_region_with (go_at_call 201; refine (unhide HC _).mono ?_; rintro e w1 ⟨rfl, b1⟩; have hc := five_below (five_drew (five_new w 46 (.int .i64 1) (.int .i64 n) (.string s) (.bool b) (.int .i64 f))) b1 (by show _ < (w.heap.push _).size; simp); obtain ⟨c0, c1, c2, c3, c4⟩ := five_cells hc; have HB := hide (below_nx (below_al w _).drew b1); clear hc b1)
      all_goals (try go_wp2_with fail)
      all_goals go_ret
      all_goals exact ⟨rfl, unhide HB⟩
    · have kb1 : (k == 1) = false := by rw [beq_eq_false_iff_ne]; exact k1
      by_cases k2 : k = 2
      · subst k2
        clear kb0 k0
        clear kb1 k1
        rw [← eq_text]
        obtain ⟨z, hz⟩ : ∃ z, vT s = z := ⟨_, rfl⟩
        have HC : Hid (∀ w : World, Calls Tryz.prog 202 #[.string s] w fun e w' => e = .returned (.agg z.cells) ∧ Below w.heap.size w w') := hide (fun w => by have h := t_val s w (unhide HS); rw [hz] at h; exact h)
        rw [hz]
        clear hz
        obtain ⟨k1, n1, s1, t1, f1⟩ := z
        unfold Vl.cells at HC
        simp only [] at HC
        have hq := fun w => vl_eq 2 n s b f k1 n1 s1 t1 f1 w
        go_enter Tryz.func165, Tryz.ntmps165
        go_wp2_with fail
        go_region_with (go_at_call 202; refine (unhide HC _).mono ?_; rintro e w1 ⟨rfl, b1⟩; have hc := five_below (five_drew (five_new w 46 (.int .i64 2) (.int .i64 n) (.string s) (.bool b) (.int .i64 f))) b1 (by show _ < (w.heap.push _).size; simp); obtain ⟨c0, c1, c2, c3, c4⟩ := five_cells hc; have HB := hide (below_nx (below_al w _).drew b1); clear hc b1)
        all_goals (try go_wp2_with fail)
        all_goals go_ret
        all_goals exact ⟨rfl, unhide HB⟩
      · have kb2 : (k == 2) = false := by rw [beq_eq_false_iff_ne]; exact k2
        by_cases k3 : k = 3
        · subst k3
          clear kb0 k0
          clear kb1 k1
          clear kb2 k2
          rw [← eq_bool]
          obtain ⟨z, hz⟩ : ∃ z, vB b = z := ⟨_, rfl⟩
          have HC : Hid (∀ w : World, Calls Tryz.prog 47 #[.bool b] w fun e w' => e = .returned (.agg z.cells) ∧ Below w.heap.size w w') := hide (fun w => by have h := b_val b w; rw [hz] at h; exact h)
          rw [hz]
          clear hz
          obtain ⟨k1, n1, s1, t1, f1⟩ := z
          unfold Vl.cells at HC
          simp only [] at HC
          have hq := fun w => vl_eq 3 n s b f k1 n1 s1 t1 f1 w
          go_enter Tryz.func165, Tryz.ntmps165
          go_wp2_with fail
          go_region_with (go_at_call 47; refine (unhide HC _).mono ?_; rintro e w1 ⟨rfl, b1⟩; have hc := five_below (five_drew (five_new w 46 (.int .i64 3) (.int .i64 n) (.string s) (.bool b) (.int .i64 f))) b1 (by show _ < (w.heap.push _).size; simp); obtain ⟨c0, c1, c2, c3, c4⟩ := five_cells hc; have HB := hide (below_nx (below_al w _).drew b1); clear hc b1)
          all_goals (try go_wp2_with fail)
          all_goals go_ret
          all_goals exact ⟨rfl, unhide HB⟩
        · have kb3 : (k == 3) = false := by rw [beq_eq_false_iff_ne]; exact k3
          by_cases k4 : k = 4
          · subst k4
            clear kb0 k0
            clear kb1 k1
            clear kb2 k2
            clear kb3 k3
            rw [← eq_err]
            obtain ⟨z, hz⟩ : ∃ z, vE f = z := ⟨_, rfl⟩
            have HC : Hid (∀ w : World, Calls Tryz.prog 203 #[.int .i64 f] w fun e w' => e = .returned (.agg z.cells) ∧ Below w.heap.size w w') := hide (fun w => by have h := e_val f w; rw [hz] at h; exact h)
            rw [hz]
            clear hz
            obtain ⟨k1, n1, s1, t1, f1⟩ := z
            unfold Vl.cells at HC
            simp only [] at HC
            have hq := fun w => vl_eq 4 n s b f k1 n1 s1 t1 f1 w
            go_enter Tryz.func165, Tryz.ntmps165
            go_wp2_with fail
            go_region_with (go_at_call 203; refine (unhide HC _).mono ?_; rintro e w1 ⟨rfl, b1⟩; have hc := five_below (five_drew (five_new w 46 (.int .i64 4) (.int .i64 n) (.string s) (.bool b) (.int .i64 f))) b1 (by show _ < (w.heap.push _).size; simp); obtain ⟨c0, c1, c2, c3, c4⟩ := five_cells hc; have HB := hide (below_nx (below_al w _).drew b1); clear hc b1)
            all_goals (try go_wp2_with fail)
            all_goals go_ret
            all_goals exact ⟨rfl, unhide HB⟩
          · have kb4 : (k == 4) = false := by rw [beq_eq_false_iff_ne]; exact k4
            rw [good_else k n s b f k0 k1 k2 k3 k4]
            clear k0 k1 k2 k3 k4
            go_enter Tryz.func165, Tryz.ntmps165
            go_wp2
            go_ret
            exact ⟨rfl, below_al _ _⟩
end Go.Proofs.YtloamahbghjjgaaGreatDoor

namespace Go.Proofs.YtloamahbghjjgaaGreatDoor
open Go.RowKit

def rEq (a b : Rf) : Bool := (a.col == b.col && a.row == b.row) && (a.fc == b.fc && a.fr == b.fr)
def fEq (a b : Fl) : Bool := (a.book.toList == b.book.toList) && ((a.sheet.toList == b.sheet.toList) && (rEq a.a b.a && (rEq a.b b.b && (a.wide == b.wide))))
set_option maxHeartbeats 1000000 in
theorem full_eq (a b : Fl) (w : World) : (binOp .eql 52 (.agg a.cells) (.agg b.cells)).run Tryz.prog w = .ok (.bool (fEq a b)) w := by
  obtain ⟨bk, sh, ⟨c1, r1, f1, g1⟩, ⟨c2, r2, f2, g2⟩, wd⟩ := a
  obtain ⟨bk', sh', ⟨c1', r1', f1', g1'⟩, ⟨c2', r2', f2', g2'⟩, wd'⟩ := b
  have hS : Tryz.prog.underlying 52 = some (.struct (Tryz.prog.fieldsOf 52)) := by kernel_rfl
  have hp : Tryz.prog.stoodInHeld 52 = false := by kernel_rfl
  have hc : ∀ c r f g c' r' f' g' w, (Op.equalIn 9999 50 (.agg #[.int .i64 c, .int .i64 r, .bool f, .bool g]) (.agg #[.int .i64 c', .int .i64 r', .bool f', .bool g'])).run Tryz.prog w = .ok ((c == c' && r == r') && ((f == f') && (g == g'))) w := fun c r f g c' r' f' g' w =>
    rf_eqIn 9996 c r f g c' r' f' g' w
  have u2 := Tryz.underlying4
  have a2 := Tryz.isAgg4
  have z2 := Tryz.sizeOf4
  have u4 := Tryz.underlying9
  have a4 := Tryz.isAgg9
  have z4 := Tryz.sizeOf9
  have a3 := Tryz.isAgg50
  have z3 := Tryz.sizeOf50
  rw [run_eql_struct, show (10000 : Nat) = 9999 + 1 from rfl, run_equalIn_agg w 9999 52 _ _ hS hp]
  simp only [Program.fieldsOf, Tryz.underlying52]
  clear hS
  unfold Fl.cells fEq rEq
  simp only []
  cases h1 : (bk.toList == bk'.toList)
  · go_simp
  cases h2 : (sh.toList == sh'.toList)
  · go_simp
  cases h3 : ((c1 == c1' && r1 == r1') && ((f1 == f1') && (g1 == g1')))
  · go_simp
  cases h4 : ((c2 == c2' && r2 == r2') && ((f2 == f2') && (g2 == g2')))
  · go_simp
  · go_simp
    clear hc
    cases wd <;> cases wd' <;> rfl
def hasB (n : Nd) (op : ByteArray) (v : Vl) (f : Fl) : Bool := (n.op.toList == op.toList) && (vEq n.val v && fEq n.ref f)
set_option maxRecDepth 100000 in
set_option maxHeartbeats 4000000 in
theorem nhas_val (n : Nd) (kv : Value) (op : ByteArray) (v : Vl) (f : Fl) (w : World) :
    Calls Tryz.prog 117 #[.agg (n.cells kv), .string op, .agg v.cells, .agg f.cells] w fun e w' => e = .returned (.bool (hasB n op v f)) ∧ Below w.heap.size w w' := by
  have hv := hide (fun w => vl_eq n.val.kind n.val.num n.val.text n.val.tr n.val.fail v.kind v.num v.text v.tr v.fail w)
  have hf := hide (fun w => full_eq n.ref f w)
  obtain ⟨kd, nop, ⟨v1, v2, v3, v4, v5⟩, ⟨bk, sh, ⟨c1, r1, f1, g1⟩, ⟨c2, r2, f2, g2⟩, wd⟩, ks⟩ := n
  obtain ⟨V1, V2, V3, V4, V5⟩ := v
  obtain ⟨bk', sh', ⟨c1', r1', f1', g1'⟩, ⟨c2', r2', f2', g2'⟩, wd'⟩ := f
  unfold hasB
  obtain ⟨b2, hb2⟩ : ∃ b, vEq ⟨v1, v2, v3, v4, v5⟩ ⟨V1, V2, V3, V4, V5⟩ = b := ⟨_, rfl⟩
  obtain ⟨b3, hb3⟩ : ∃ b, fEq ⟨bk, sh, ⟨c1, r1, f1, g1⟩, ⟨c2, r2, f2, g2⟩, wd⟩ ⟨bk', sh', ⟨c1', r1', f1', g1'⟩, ⟨c2', r2', f2', g2'⟩, wd'⟩ = b := ⟨_, rfl⟩
  simp only [] at hv hf ⊢
  rw [hb2] at hv ⊢
  rw [hb3] at hf ⊢
  clear hb2 hb3
  unfold Nd.cells Vl.cells Fl.cells
  unfold Fl.cells at hf
  simp only [] at hf ⊢
  have hv2 := unhide hv
  have hf2 := unhide hf
  cases h1 : (nop.toList == op.toList)
  · go_enter Tryz.func117, Tryz.ntmps117
    go_wp2
    go_ret
    exact ⟨rfl, (below_al3 _ _ _ _)⟩
  cases b2
  · go_enter Tryz.func117, Tryz.ntmps117
    go_wp2
    go_ret
    exact ⟨rfl, (below_al3 _ _ _ _)⟩
  · go_enter Tryz.func117, Tryz.ntmps117
    go_wp2
    go_ret
    exact ⟨rfl, (below_al3 _ _ _ _)⟩
end Go.Proofs.YtloamahbghjjgaaGreatDoor
