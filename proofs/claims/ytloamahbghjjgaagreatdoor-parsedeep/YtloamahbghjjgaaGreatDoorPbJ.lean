/- The walk of arguments. -/
import Derived.Test.YtloamahbghjjgaaGreatDoorPbI
namespace Go.Proofs.YtloamahbghjjgaaGreatDoor
open Go.RowKit
variable {X : Nat → Prop}

abbrev orBlock (X : Nat → Prop) (g : Nat) : Nat → Prop := fun x => X x ∨ x = g
/-- A block that has just been made is none of the kids'. -/
theorem RdAt.bar {R : Nat} {w : World} {tv : Value} {l : List Tk} {nds : List Nd} {d dp m : Nat} (h : RdAt X R w tv l nds d dp m) (o : Obj) : RdAt (orBlock X w.heap.size) R (w.alloc o) tv l nds d dp m := by
  have h2 := h.nx (below_al w o)
  obtain ⟨ps, p1, p2, p3⟩ := h.row
  obtain ⟨qs, q1, q2, q3⟩ := h2.row
  refine ⟨h2.cells, ⟨ps, p1, (p2.alloc o), fun p hp => ⟨kids_below (p3 p hp).1 (below_al w o), fun g hg hx => ?_⟩⟩, fun x hx => ?_⟩
  · rcases hx with hx | hx
    · exact (p3 p hp).2 g hg hx
    · have := ((p3 p hp).1.lt g hg).2
      omega
  · rcases hx with hx | hx
    · have := h.lim x hx; simp; omega
    · simp; omega
theorem RdAt.less {R g : Nat} {w : World} {tv : Value} {l : List Tk} {nds : List Nd} {d dp m : Nat} (h : RdAt (orBlock X g) R w tv l nds d dp m) : RdAt X R w tv l nds d dp m := by
  obtain ⟨ps, p1, p2, p3⟩ := h.row
  exact ⟨h.cells, ⟨ps, p1, p2, fun p hp => ⟨(p3 p hp).1, fun g hg hx => (p3 p hp).2 g hg (Or.inl hx)⟩⟩, fun x hx => h.lim x (Or.inl hx)⟩
/-- A row of numbers beside the kids is appended to. -/
theorem RdAt.grown {R g g' : Nat} {w w' : World} {tv : Value} {l : List Tk} {nds : List Nd} {d dp m : Nat} {cur : Array Value} (h : RdAt (orBlock X g) R w tv l nds d dp m) (hg : w.heap[g]? = some (.cells cur 3 (0, 0))) (hR : R < g) (hgr : w.grownBy w' (some g))
    (hn : g' = g ∨ g' = w.heap.size) (hlt : g' < w'.heap.size) : RdAt (orBlock X g') R w' tv l nds d dp m := by
  obtain ⟨a, cap, h1, h2, h3, h4⟩ := h.cells
  obtain ⟨ps, p1, p2, p3⟩ := h.row
  have hRl := cells_lt h1
  have hsame : ∀ k, k < w.heap.size → k ≠ g → w'.heap[k]? = w.heap[k]? := fun k hk hn => hgr.block k hk (fun e => hn (by cases e; rfl))
  refine ⟨⟨a, cap, ?_, h2, toks_old h3 h4 (fun k hk => hsame k (by omega) (by omega)) hgr.size, h4⟩, ⟨ps, p1, owns_grown p2 (fun k hk hv => hsame k hk (fun e => ?_)), fun p hp => ⟨owns_grown (p3 p hp).1 (fun k hk hv => hsame k hk (fun e => ?_)), fun x hx hxx => ?_⟩⟩, fun x hx => ?_⟩
  · unfold CellsAt at h1 ⊢
    rw [hsame R hRl (by omega)]; exact h1
  · obtain ⟨c, hc⟩ := owns_type p2 hv
    rw [e, hg] at hc
    cases hc
  · exact (p3 p hp).2 k hv (Or.inr e)
  · rcases hxx with hxx | hxx
    · exact (p3 p hp).2 x hx (Or.inl hxx)
    · rcases hn with hn | hn
      · exact (p3 p hp).2 x hx (Or.inr (by omega))
      · have := ((p3 p hp).1.lt x hx).2; omega
  · rcases hx with hx | hx
    · exact Nat.lt_of_lt_of_le (h.lim x (Or.inl hx)) hgr.size
    · omega
theorem Frm.grown {R g : Nat} {w0 w w' : World} (h : Frm R w0 w) (hg : w.grownBy w' (some g)) (hb : w0.heap.size ≤ g) : Frm R w0 w' := by
  refine ⟨hg.os.trans h.os, hg.tape.trans h.tape, hg.output.trans h.output, Nat.le_trans h.size hg.size, fun k hk hR hn => ?_⟩
  rw [hg.block k (Nat.lt_of_lt_of_le hk h.size) (fun e => by cases e; omega)]
  exact h.block k hk hR hn
theorem Frm.owns {R n : Nat} {w w' : World} {v : Value} {xs : List Value} (h : Frm R w w') (hk : w.ownsRow (R + 1) 3 1 v n xs) : w'.ownsRow (R + 1) 3 1 v n xs :=
  owns_grown hk (fun k hlt hv => h.block k hlt (by have := (hk.lt k hv).1; omega) (Or.inr fun cur fr e => by
    obtain ⟨c, hc⟩ := owns_type hk hv
    rw [hc] at e
    cases e))
def valsL (ks : List Nat) : List Value := (ks.map fun k : Nat => (k : Int)).map fun k => Value.int .i64 k
theorem vals_len (ks : List Nat) : (valsL ks).length = ks.length := by simp [valsL]
/-- How far arguments has come. -/
structure AgAt (X : Nat → Prop) (l : List Tk) (O : Rs) (R : Nat) (nds : List Nd) (d dp m : Nat) (w0 : World) (a : Syn) (li : List Tk) (g cap : Nat) (w : World) : Prop where
  all : O = rd (.more a) li
  toks : l = a.toks ++ li
  wf : a.wf 9
  ne : a ≠ .nil
  frm : Frm R w0 w
  kids : w.ownsRow (R + 1) 3 1 (.slice (some ⟨g, 0, none⟩) (a.kidsL nds.length).length cap) (a.kidsL nds.length).length (valsL (a.kidsL nds.length))
  new : w0.heap.size ≤ g
  at_ : ∃ tv, RdAt (orBlock X g) R w tv li (nds ++ a.emit nds.length) (d + 1) (max dp (d + a.nest)) (max m a.most)
theorem AgAt.stop {l : List Tk} {O : Rs} {R : Nat} {nds : List Nd} {d dp m : Nat} {w0 w : World} {a : Syn} {li : List Tk} {g cap : Nat} (h : AgAt X l O R nds d dp m w0 a li g cap w) (hl : (headT li).kind ≠ 8) : O = some (a, li) := by
  rw [h.all]
  cases li with
  | nil => rfl
  | cons t l2 =>
    have hl : t.kind ≠ 8 := hl
    rw [rd_more, if_neg hl]
theorem AgAt.out {l : List Tk} {O : Rs} {R : Nat} {nds : List Nd} {d dp m : Nat} {w0 w : World} {a : Syn} {t : Tk} {l2 : List Tk} {g cap : Nat} (h : AgAt X l O R nds d dp m w0 a (t :: l2) g cap w) (ht : t.kind = 8) (hb : rd (.chain 1) l2 = none) : O = none := by
  rw [h.all, rd_more, if_pos ht, hb]
theorem AgAt.fit {l : List Tk} {O : Rs} {R : Nat} {nds : List Nd} {d dp m : Nat} {w0 w : World} {a : Syn} {li : List Tk} {g cap : Nat} (h : AgAt X l O R nds d dp m w0 a li g cap w) (hf : Fit l nds (d + 1) dp m) : Fit li (nds ++ a.emit nds.length) (d + 1) (max dp (d + a.nest)) (max m a.most) := by
  have := fit_next hf h.toks h.wf
  exact ⟨this.text, this.nodes, this.deep, by have := this.dp; omega, this.most⟩
theorem AgAt.step {l : List Tk} {O : Rs} {R : Nat} {nds : List Nd} {d dp m : Nat} {w0 w w' : World} {a b : Syn} {t : Tk} {l2 l3 : List Tk} {g cap g' cap' : Nat} {tv : Value} (h : AgAt X l O R nds d dp m w0 a (t :: l2) g cap w) (ht : t.kind = 8)
    (hb : rd (.chain 1) l2 = some (b, l3)) (hf : Frm R w0 w') (hk : w'.ownsRow (R + 1) 3 1 (.slice (some ⟨g', 0, none⟩) ((a.kidsL nds.length).length + 1) cap') ((a.kidsL nds.length).length + 1) (valsL (a.kidsL nds.length) ++ [.int .i64 ((((nds ++ a.emit nds.length).length + b.size - 1 : Nat)) : Int)]))
    (hg : w0.heap.size ≤ g') (hr : RdAt (orBlock X g') R w' tv l3 ((nds ++ a.emit nds.length) ++ b.emit (nds ++ a.emit nds.length).length) (d + 1) (max (max dp (d + a.nest)) (d + 1 + b.nest)) (max (max m a.most) b.most)) :
    AgAt X l O R nds d dp m w0 (.snoc a t b) l3 g' cap' w' := by
  have e1 : (Syn.snoc a t b).kidsL nds.length = a.kidsL nds.length ++ [(nds ++ a.emit nds.length).length + b.size - 1] := by
    simp only [Syn.kidsL, List.length_append, emit_len]
  refine ⟨?_, ?_, ⟨rfl, h.wf, h.ne, ht, ?_⟩, by simp, hf, ?_, hg, tv, hr.cast ?_ ?_ ?_⟩
  · rw [h.all, rd_more, if_pos ht, hb]
  · have := rd_toks hb
    simp only [Md.left, List.nil_append] at this
    rw [h.toks, this]; simp [Syn.toks]
  · have := rd_wf hb (Nat.le_refl 1)
    simpa [Md.lev] using this
  · rw [e1, List.length_append, List.length_singleton]
    have e2 : valsL (a.kidsL nds.length ++ [(nds ++ a.emit nds.length).length + b.size - 1]) = valsL (a.kidsL nds.length) ++ [.int .i64 ((((nds ++ a.emit nds.length).length + b.size - 1 : Nat)) : Int)] := by
      simp [valsL]
    rw [e2]; exact hk
  · rw [List.length_append, emit_len]; simp [Syn.emit]
  · simp only [Syn.nest]; omega
  · simp only [Syn.most]; omega
def argO (O : Rs) : Rs := match O with | none => none | some p => rd (.more (.first p.1)) p.2
theorem rd_args_go {l : List Tk} (h : (headT l).kind ≠ 7) : rd .args l = argO (rd (.chain 1) l) := by
  cases l with
  | nil =>
    rw [rd_args_nil]
    cases hc : rd (.chain 1) [] with
    | none => rfl
    | some p => have := rd_short hc; simp at this
  | cons t l =>
    have h : t.kind ≠ 7 := h
    rw [rd_args, if_neg h]; rfl
theorem infoInt : (Tryz.prog.info? 3).map (fun i => (i.zero, i.size, i.bytes)) = some (some (.int .i64 0), 1, 8) := by kernel_rfl
set_option maxRecDepth 100000 in
set_option maxHeartbeats 4000000 in
theorem args_none (l : List Tk) (h7 : (headT l).kind = 7) : ArOk l := by
  intro X R w tv nds d dp m hr hf hdp
  have HA := hide (ahead_val R w tv l nds (d + 1) dp m hr)
  have HR := hide hr
  have fl0 := tk_fld0 (headT l)
  rw [h7] at fl0
  have e : rd .args l = some (.nil, l) := by
    cases l with
    | nil => exact absurd h7 (by decide)
    | cons t l =>
      have h7 : t.kind = 7 := h7
      rw [rd_args, if_pos h7]
  rw [e]
  clear hr hf e h7
  generalize headT l = T at HA fl0
  go_enter Tryz.func263, Tryz.ntmps263
  go_wp2_with fail
  refine (unhide HA).mono ?_
  rintro e w1 ⟨rfl, b1⟩
  have HB := hide b1
  clear b1
  go_wp2
  refine bodyPost_ret (v := .slice none 0 0) (results_t1 rfl _ _ _ rfl) rfl ?_
  unfold ArPost
  exact ⟨_, rfl, kidsX_nil _ _, Frm.of (unhide HB), tv, ((unhide HR).nx (unhide HB)).cast (by simp [Syn.emit]) (by simp only [Syn.nest]; omega) (by simp [Syn.most])⟩
set_option maxRecDepth 100000 in
set_option maxHeartbeats 4000000 in
theorem args_some (l : List Tk) (h7 : (headT l).kind ≠ 7) (h : ∀ l', l'.length ≤ l.length → RdOk 60 [] (rd (.chain 1) l') l') : ArOk l := by
  intro X R w tv nds d dp m hr hf hdp
  obtain ⟨i0, hi, hz0, hz1, hz2⟩ := info_parts infoInt
  have HA := hide (ahead_val R w tv l nds (d + 1) dp m hr)
  have HR := hide hr
  have HF := hide hf
  have HH := hide h
  have hRlt := hr.lt
  have fl0 := tk_fld0 (headT l)
  obtain ⟨O, hO⟩ : ∃ O, rd .args l = O := ⟨_, rfl⟩
  have HO : Hid (O = argO (rd (.chain 1) l)) := hide (by rw [← hO]; exact rd_args_go h7)
  rw [hO]
  clear hr hf h hO
  go_enter Tryz.func263, Tryz.ntmps263
  go_wp2_with fail
  refine (unhide HA).mono ?_
  rintro e wa ⟨rfl, ba⟩
  have HRA := hide ((unhide HR).nx ba)
  have FA : Hid (Frm R w wa) := hide (Frm.of ba)
  have hwa := ba.size
  clear ba HA
  have HC := hide (unhide HH l (Nat.le_refl _) X R wa tv nds (d + 1) dp m (unhide HRA) (unhide HF))
  simp only [List.toArray] at HC
  unfold RdPost at HC
  cases ho : rd (.chain 1) l with
  | none =>
    have e : O = none := by rw [unhide HO, ho]; rfl
    rw [ho] at HC
    simp only [] at HC
    subst e
    clear ho HH HO
    go_wp2_with fail
    refine (unhide HC).mono ?_
    rintro e w1 ⟨rfl, hf⟩
    have FB := hide ((unhide FA).trans hf)
    clear hf
    go_wp2
    exact ⟨rfl, rfl, unhide FB⟩
  | some p =>
    obtain ⟨s, l1⟩ := p
    rw [ho] at HC
    simp only [] at HC
    have H0 : Hid (O = rd (.more (.first s)) l1 ∧ l = s.toks ++ l1 ∧ s.wf 1) := hide (by
      refine ⟨by rw [unhide HO, ho]; rfl, rd_toks ho, ?_⟩
      have := rd_wf ho (Nat.le_refl 1)
      simpa [Md.lev] using this)
    clear ho HO
    obtain ⟨pa, hpa⟩ : ∃ pa : Nat, nds.length + s.size - 1 = pa := ⟨_, rfl⟩
    have PA := hide hpa
    rw [hpa] at HC
    clear hpa
    go_wp2_with fail
    refine (unhide HC).mono ?_
    rintro e w1 ⟨rfl, f1, tv1, r1⟩
    have hw1 := f1.size
    have A0 : Hid (AgAt X l O R nds d dp m w (.first s) l1 w1.heap.size 1 (w1.alloc (.cells #[.int .i64 (pa : Int)] 3))) := hide (by
      refine ⟨(unhide H0).1, (unhide H0).2.1, ⟨rfl, (unhide H0).2.2⟩, by simp, ((unhide FA).trans f1).trans (Frm.of (below_al _ _)), ?_, by omega, tv1, (r1.bar _).cast rfl (by simp only [Syn.nest]; omega) rfl⟩
      have := (kidsX_one r1 (pa : Int)).1
      show World.ownsRow _ _ _ _ _ _ (valsL [nds.length + s.size - 1])
      rw [unhide PA]
      exact this)
    clear f1 r1 H0 HC FA HRA
    go_wp2_with fail
    go_loopw [3] (fun v wr => ∃ (a : Syn) (li : List Tk) (g cap : Nat), v = .slice (some ⟨g, 0, none⟩) (a.kidsL nds.length).length cap ∧ Hid (AgAt X l O R nds d dp m w a li g cap wr)) (fun _ wr => restLen (wr.cell? ⟨R, 0, none⟩))
    case atStart => exact ⟨.first s, l1, _, 1, rfl, A0⟩
    case round =>
      clear A0 PA
      obtain ⟨a, li, g, cap, rfl, HA⟩ := hrel
      obtain ⟨tva, hRA⟩ := (unhide HA).at_
      have HRA := hide hRA
      have HAH := hide (ahead_val R wr tva li _ (d + 1) _ _ hRA)
      have HFI := hide ((unhide HA).fit (unhide HF))
      have HLE := hide (rest_len hRA)
      clear hRA
      have fh := tk_fld0 (headT li)
      clear fl0
      by_cases hl : (headT li).kind = 8
      · rw [hl] at fh
        cases li with
        | nil => exact absurd hl (by rw [show headT [] = noT from rfl]; decide)
        | cons t l2 =>
          have hl : t.kind = 8 := hl
          have HL := hide hl
          rw [show headT (t :: l2) = t from rfl] at HAH fh
          clear hl
          go_wp2_with fail
          refine (unhide HAH).mono ?_
          rintro e wb ⟨rfl, bb⟩
          have HRB := hide ((unhide HRA).nx bb)
          have FA : Hid (Frm R wr wb) := hide (Frm.of bb)
          clear bb HAH HRA
          have HTK := hide (take_ok R wb tva t l2 _ (d + 1) _ _ (unhide HRB) (by have := (unhide HFI).nodes; simp only [List.length_cons] at this; omega))
          rw [unhide HL] at HTK
          go_wp2_with fail
          refine (unhide HTK).mono ?_
          rintro e wc ⟨rfl, rc, fc⟩
          have HRC := hide rc
          replace FA := hide ((unhide FA).trans fc)
          clear rc fc HTK HRB
          have HFT := hide (fit_tail (unhide HFI))
          have HCC := hide (unhide HH l2 (by have := congrArg List.length (unhide HA).toks; simp only [List.length_append, List.length_cons] at this; omega) (orBlock X g) R wc tva _ (d + 1) _ _ (unhide HRC) (unhide HFT))
          simp only [List.toArray] at HCC
          unfold RdPost at HCC
          clear HH HFT
          cases hb : rd (.chain 1) l2 with
          | none =>
            have hO := (unhide HA).out (unhide HL) hb
            rw [hb] at HCC
            simp only [] at HCC
            subst hO
            clear hb
            go_wp2_with fail
            refine (unhide HCC).mono ?_
            rintro e wd ⟨rfl, fd⟩
            have FD := hide ((unhide HA).frm.trans ((unhide FA).trans fd))
            clear fd
            go_wp2
            exact ⟨rfl, rfl, unhide FD⟩
          | some p =>
            obtain ⟨b, l3⟩ := p
            rw [hb] at HCC
            simp only [] at HCC
            have HB := hide hb
            clear hb
            obtain ⟨pb, hpb⟩ : ∃ pb : Nat, (nds ++ a.emit nds.length).length + b.size - 1 = pb := ⟨_, rfl⟩
            have PB := hide hpb
            rw [hpb] at HCC
            clear hpb
            obtain ⟨c, hc⟩ : ∃ c, (a.kidsL nds.length).length = c := ⟨_, rfl⟩
            have HCn := hide hc
            rw [hc]
            clear hc
            have hcle : c ≤ 3100 := by
              have h1 := (size_toks a).2
              have h2 := kids_len a nds.length
              have h3 := congrArg List.length (unhide HA).toks
              have h4 := (unhide HF).nodes
              have h5 := unhide HCn
              simp only [List.length_append, List.length_cons] at h3
              omega
            go_wp2_with fail
            refine (unhide HCC).mono ?_
            rintro e wd ⟨rfl, fd, tvd, rd'⟩
            have HRD := hide rd'
            replace FA := hide ((unhide FA).trans fd)
            clear rd' fd HCC HRC
            have HKD : Hid (wd.ownsRow (R + 1) 3 1 (.slice (some ⟨g, 0, none⟩) c cap) c (valsL (a.kidsL nds.length))) := hide (by
              have := (unhide FA).owns (unhide HA).kids
              rw [unhide HCn] at this
              exact this)
            have hRd := (unhide HRD).lt
            have hgd := ((unhide HKD).lt g rfl).2
            have hgR := ((unhide HKD).lt g rfl).1
            go_wp2_with (at_builtin; refine wpList_append_lies _ rfl _ _ 53 rfl (R + 1) 3 i0 (.int .i64 0) 1 8 Tryz.underlying53 hi hz0 hz1 hz2 rfl (by decide) _ _ _ rfl ((unhide HKD).alloc _) ⟨wd.heap.size, 0, none⟩ 1 1 [.int .i64 (pb : Int)] rfl rfl (World.news_of_block (heap_alloc_new _ _)) (by simp [Value.oneCell']) (by omega) (by unfold maxLen; omega) (by omega) (by simp; omega) _ rfl ?_)
            intro g' cap' we hown' hgrow hor hlt
            have hbd := below_al wd (.cells #[.int .i64 (pb : Int)] 3)
            have hor' : g' = g ∨ g' = (wd.alloc (.cells #[.int .i64 (pb : Int)] 3)).heap.size := by
              rcases hor with h | h
              · exact Or.inl (by simpa [Value.ownBlock] using h.symm)
              · exact Or.inr (by simpa using h)
            have hgb : ∃ cur, (wd.alloc (.cells #[.int .i64 (pb : Int)] 3)).heap[g]? = some (.cells cur 3 (0, 0)) := owns_type ((unhide HKD).alloc _) rfl
            obtain ⟨cur, hcur⟩ := hgb
            have hnew := (unhide HA).new
            have HN : Hid (AgAt X l O R nds d dp m w (.snoc a t b) l3 g' cap' we) := hide (by
              refine (unhide HA).step (unhide HL) (unhide HB) ((((unhide HA).frm.trans (unhide FA)).trans (Frm.of hbd)).grown hgrow hnew) ?_ ?_ (tv := tvd) (((unhide HRD).nx hbd).grown hcur (by omega) hgrow hor' hlt)
              · rw [unhide HCn, unhide PB]; exact hown'
              · have h1 := (unhide HA).frm.size
                have h2 := (unhide FA).size
                rcases hor' with h | h
                · omega
                · simp at h; omega)
            have hcs : ((Syn.snoc a t b).kidsL nds.length).length = c + 1 := by
              simp only [Syn.kidsL, List.length_append, List.length_singleton]
              rw [unhide HCn]
            have HCS := hide hcs
            clear hown' hgrow hor hor' hlt hbd hcur hnew HKD hcs
            go_wp2
            go_roundw
            case rel => exact ⟨.snoc a t b, l3, g', cap', by rw [unhide HCS], HN⟩
            case measure =>
              obtain ⟨tvx, hx⟩ := (unhide HN).at_
              rw [rest_len hx, unhide HLE]
              have := rd_short (unhide HB)
              simp only [List.length_cons]; omega
      · have hO := (unhide HA).stop hl
        subst hO
        have hne : ((headT li).kind == 8) = false := by simpa using hl
        go_wp2_with fail
        refine (unhide HAH).mono ?_
        rintro e wb ⟨rfl, bb⟩
        have HRB := hide ((unhide HRA).nx bb)
        have FA : Hid (Frm R wr wb) := hide (Frm.of bb)
        clear bb HAH HRA
        go_wp2
        refine bodyPost_ret (v := .slice (some ⟨g, 0, none⟩) (a.kidsL nds.length).length cap) (results_t1 rfl _ _ _ rfl) rfl ?_
        unfold ArPost
        refine ⟨_, rfl, ⟨?_, ?_⟩, (unhide HA).frm.trans (unhide FA), tva, (unhide HRB).less⟩
        · have := (unhide FA).owns (unhide HA).kids
          unfold KidsAt
          rw [List.length_map]
          exact this
        · intro x hx hxx
          cases hx
          have h1 := (unhide HR).lim g hxx
          have h2 := (unhide HA).new
          omega
end Go.Proofs.YtloamahbghjjgaaGreatDoor
