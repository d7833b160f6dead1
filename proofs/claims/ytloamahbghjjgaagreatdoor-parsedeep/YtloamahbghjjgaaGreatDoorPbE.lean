/- What the reader's calls answer; the walks of formula, chain. -/
import Derived.Test.YtloamahbghjjgaaGreatDoorPbC
import Derived.Test.YtloamahbghjjgaaGreatDoorPbD
import Derived.Great.BuildSlice
namespace Go.Proofs.YtloamahbghjjgaaGreatDoor
open Go.RowKit
variable {X : Nat → Prop}

/-- How long what is read may be. -/
structure Fit (l : List Tk) (nds : List Nd) (d dp m : Nat) : Prop where
  text : ∀ t ∈ l, t.text.size ≤ 1000
  nodes : nds.length + l.length ≤ 3000
  deep : d + l.length ≤ 3000
  dp : dp ≤ 10000
  most : m ≤ 10000
/-- What a call that reads tells: a place, or the panic. -/
def RdPost (X : Nat → Prop) (R : Nat) (nds : List Nd) (d dp m : Nat) (w : World) (o : Rs) (e : Ending) (w' : World) : Prop :=
  match o with
  | none => e = .panicked noForm ∧ Frm R w w'
  | some (s, r) => e = .returned (.int .i64 ((nds.length + s.size - 1 : Nat) : Int)) ∧ Frm R w w' ∧ ∃ tv', RdAt X R w' tv' r (nds ++ s.emit nds.length) d (max dp (d + s.nest)) (max m s.most)
/-- What arguments tells. -/
def ArPost (X : Nat → Prop) (R : Nat) (nds : List Nd) (d dp m : Nat) (w : World) (o : Rs) (e : Ending) (w' : World) : Prop :=
  match o with
  | none => e = .panicked noForm ∧ Frm R w w'
  | some (s, r) => ∃ kv, e = .returned kv ∧ (KidsAt w' (R + 1) kv ((s.kidsL nds.length).map fun k : Nat => (k : Int)) ∧ ∀ g, kv.ownBlock = some g → ¬ X g) ∧ Frm R w w' ∧ ∃ tv', RdAt X R w' tv' r (nds ++ s.emit nds.length) (d + 1) (max dp (d + s.nest)) (max m s.most)
/-- A call that reads, at tokens. -/
def RdOk (f : FuncId) (args : List Value) (o : Rs) (l : List Tk) : Prop :=
  ∀ (X : Nat → Prop) (R : Nat) (w : World) (tv : Value) (nds : List Nd) (d dp m : Nat), RdAt X R w tv l nds d dp m → Fit l nds d dp m →
    Calls Tryz.prog f (Value.pointer (some ⟨R, 0, none⟩) :: args).toArray w (RdPost X R nds d dp m w o)
/-- Behind what has been read the rest fits, too. -/
theorem fit_next {l r : List Tk} {nds : List Nd} {d dp m k : Nat} {s : Syn} (h : Fit l nds d dp m) (hl : l = s.toks ++ r) (hs : s.wf k) : Fit r (nds ++ s.emit nds.length) d (max dp (d + s.nest)) (max m s.most) := by
  have h1 := size_toks s
  have h2 := most_toks s
  have h3 := nest_toks hs
  have hn := h.nodes
  have hd := h.deep
  have hp := h.dp
  have hm := h.most
  have he : l.length = s.toks.length + r.length := by rw [hl, List.length_append]
  refine ⟨fun t ht => h.text t (by rw [hl]; exact List.mem_append_right _ ht), ?_, by omega, by omega, by omega⟩
  rw [List.length_append, emit_len]
  omega
theorem fit_tail {t : Tk} {l : List Tk} {nds : List Nd} {d dp m : Nat} (h : Fit (t :: l) nds d dp m) : Fit l nds d dp m := by
  have hn := h.nodes
  have hd := h.deep
  rw [List.length_cons] at hn hd
  exact ⟨fun u hu => h.text u (List.mem_cons_of_mem _ hu), by omega, by omega, h.dp, h.most⟩
set_option maxHeartbeats 1000000 in
theorem formula_ok (l : List Tk) (h : RdOk 96 [.int .i64 1] (rd (.chain 1) l) l) : RdOk 60 [] (rd (.chain 1) l) l := by
  intro X R w tv nds d dp m hr hf
  have HC := hide (h X R w tv nds d dp m hr hf)
  clear h hr hf
  simp only [List.toArray] at HC
  unfold RdPost at HC ⊢
  cases ho : rd (.chain 1) l with
  | none =>
    rw [ho] at HC
    clear ho
    go_enter Tryz.func60, Tryz.ntmps60
    go_wp2_with fail
    refine (unhide HC).mono ?_
    rintro e w1 ⟨rfl, hf⟩
    go_wp2
    exact ⟨rfl, rfl, hf⟩
  | some p =>
    obtain ⟨s, r⟩ := p
    rw [ho] at HC
    clear ho
    go_enter Tryz.func60, Tryz.ntmps60
    go_wp2_with fail
    refine (unhide HC).mono ?_
    rintro e w1 ⟨rfl, hf, hx⟩
    have HX := hide hx
    clear hx
    go_wp2
    exact bodyPost_ret (v := .int .i64 ((nds.length + s.size - 1 : Nat) : Int)) (results_t1 rfl _ _ _ rfl) rfl ⟨rfl, hf, unhide HX⟩
end Go.Proofs.YtloamahbghjjgaaGreatDoor
