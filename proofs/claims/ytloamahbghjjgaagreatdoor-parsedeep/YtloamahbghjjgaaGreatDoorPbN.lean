/- The walks of whole and Parse. -/
import Derived.Test.YtloamahbghjjgaaGreatDoorPbM
import Derived.Defers
import Derived.Recover
namespace Go.Proofs.YtloamahbghjjgaaGreatDoor
open Go.RowKit
variable {X : Nat → Prop}

set_option maxRecDepth 100000 in
set_option maxHeartbeats 1000000 in
/-- The deferred closure, of a frame that panics with an error of the reader's. -/
theorem catch_panics (p : Addr) (w : World) (v0 : Value) (hc : w.cell? p = some v0) (hz : w.frozen? p = false) :
    CallsD Tryz.prog 59 #[.pointer (some p)] (.panicking noForm) w fun e u' w' =>
      e = .returned (.tuple #[]) ∧ u' = .panicking [{ v := .iface 24 (.int .i64 4), recovered := true }] ∧ w' = w.setCell p (.int .i64 4) := by
  unfold noForm
  have hta : ∀ w : World, (Instr.typeAssert (.iface 24 (.int .i64 4)) 20 24 true).run Tryz.prog w = .ok (.tuple #[.int .i64 4, .bool true]) w := fun w => by kernel_rfl
  refine callsD_of_wpS Tryz.func59 rfl fun c₀ cs hu => ?_
  apply wpS_seq
  apply wpS_region
  simp [wpOpsS, go_sem, recoverD, hu, Tryz.ntmps59, Exit.thenS]
  refine wpS_of_wp ?_
  go_wp2
  cases c₀
  simp_all [bodyPostS, results, Tryz.results59]
set_option maxRecDepth 100000 in
set_option maxHeartbeats 1000000 in
/-- The deferred closure, of a frame that returns. -/
theorem catch_rests (p : Addr) (w : World) :
    CallsD Tryz.prog 59 #[.pointer (some p)] .returning w fun e u' w' => e = .returned (.tuple #[]) ∧ u' = .returning ∧ w' = w := by
  refine callsD_of_wpS Tryz.func59 rfl fun c₀ cs hu => ?_
  apply wpS_seq
  apply wpS_region
  simp [wpOpsS, go_sem, recoverD, hu, Tryz.ntmps59, Exit.thenS]
  refine wpS_of_wp ?_
  go_wp2
  cases c₀
  simp_all [bodyPostS, results, Tryz.results59]
/-- A block beside the reader is written. -/
theorem RdAt.beside {R A i : Nat} {w : World} {tv v : Value} {l : List Tk} {nds : List Nd} {d dp m : Nat} {T : TypeId} {cs : Array Value} (h : RdAt X R w tv l nds d dp m) (hA : CellsAt w A T cs) (hR : R < A) (h1 : T ≠ ndT) (h2 : T ≠ 3) : RdAt X R (w.setCell ⟨A, i, none⟩ v) tv l nds d dp m := by
  obtain ⟨a, cap, c1, c2, c3, c4⟩ := h.cells
  obtain ⟨ps, p1, p2, p3⟩ := h.row
  have hs : (w.setCell ⟨A, i, none⟩ v).heap.size = w.heap.size := by simp [World.setCell]
  have hb : ∀ k, k ≠ A → (w.setCell ⟨A, i, none⟩ v).heap[k]? = w.heap[k]? := fun k hk => heap_setCell_other _ _ _ _ hk
  have far : ∀ {B T' n s : Nat} {u : Value} {xs : List Value}, w.ownsRow B T' s u n xs → T' ≠ T → (w.setCell ⟨A, i, none⟩ v).ownsRow B T' s u n xs := fun {B T' n s u xs} hr hT =>
    owns_grown hr (fun k _ hv => hb k (fun e => by
      obtain ⟨cur, hc⟩ := owns_type hr hv
      unfold CellsAt at hA
      rw [e, hA] at hc
      cases hc
      exact hT rfl))
  refine ⟨⟨a, cap, cells_set_far c1 (by omega) i v, c2, toks_old c3 c4 (fun k hk => hb k (by omega)) (Nat.le_of_eq hs.symm), c4⟩, ⟨ps, p1, far p2 (fun e => h1 e.symm), fun p hp => ⟨far (p3 p hp).1 (fun e => h2 e.symm), (p3 p hp).2⟩⟩, fun x hx => by rw [hs]; exact h.lim x hx⟩
theorem Frm.setNew {R A i : Nat} {w w' : World} {v : Value} (h : Frm R w w') (hA : w.heap.size ≤ A) : Frm R w (w'.setCell ⟨A, i, none⟩ v) :=
  ⟨h.os, h.tape, h.output, by have := h.size; simp [World.setCell] at this ⊢; exact this, fun k hk hR hn => by rw [heap_setCell_other _ _ _ _ (by show k ≠ A; omega)]; exact h.block k hk hR hn⟩
/-- What whole tells. -/
def WhPost (X : Nat → Prop) (R : Nat) (w : World) (o : Option Syn) (e : Ending) (w' : World) : Prop :=
  match o with
  | none => e = .returned (.int .i64 4) ∧ Frm R w w'
  | some s => e = .returned (.int .i64 0) ∧ Frm R w w' ∧ ∃ tv', RdAt X R w' tv' [] (s.emit 0) 0 s.nest s.most
set_option maxRecDepth 100000 in
set_option maxHeartbeats 4000000 in
theorem whole_val (R : Nat) (w : World) (tv : Value) (l : List Tk) (hr : RdAt X R w tv l [] 0 0 0) (hf : Fit l [] 0 0 0) :
    Calls Tryz.prog 33 #[.pointer (some ⟨R, 0, none⟩)] w (WhPost X R w (wholeO (rd (.chain 1) l))) := by
  have hmf : ∀ (fn : Fn) (first cap : Array Value) (w : World), (Instr.makeFunc fn first cap).run Tryz.prog w = .ok (.func fn first cap) w := fun _ _ _ _ => rfl
  have hR := hr.lt
  have HC := hide (formula_val l X R _ tv [] 0 0 0 (hr.nx (below_al w (.cells #[.int .i64 0] 24))) hf)
  have CA := hide (cells_new w 24 #[.int .i64 0])
  clear hr hf
  simp only [List.toArray] at HC
  obtain ⟨O, hO⟩ : ∃ O, rd (.chain 1) l = O := ⟨_, rfl⟩
  rw [hO] at HC ⊢
  clear hO
  unfold RdPost at HC
  cases O with
  | none =>
    simp only [] at HC
    go_enter_defers Tryz.func33, Tryz.ntmps33
    go_wp2_with fail
    refine (unhide HC).mono ?_
    rintro e w1 ⟨rfl, f1⟩
    have C1 := f1.cells (unhide CA) (show w.heap.size ≠ R by omega) (by decide)
    have FA := hide ((Frm.of (below_al w (.cells #[.int .i64 0] 24))).trans f1)
    clear f1
    go_wp2
    refine leaves_cons (f := 59) (args := #[.pointer (some ⟨w.heap.size, 0, none⟩)]) (by simp) (by simp [go_sem]) ?_
    refine (catch_panics ⟨w.heap.size, 0, none⟩ w1 (.int .i64 0) (cells_c C1 0 _ rfl) (cells_f C1 0)).mono ?_
    rintro e u' w'' ⟨rfl, rfl, rfl⟩
    have k1 := cells_c (cells_set C1 0 (.int .i64 4)) 0 (.int .i64 4) rfl
    have HP : WhPost X R w (wholeO none) (.returned (.int .i64 4)) (w1.setCell ⟨w.heap.size, 0, none⟩ (.int .i64 4)) := ⟨rfl, (unhide FA).setNew (Nat.le_refl _)⟩
    simp [Leaves, settle, results, k1, go_sem]
    exact HP
  | some p =>
    obtain ⟨s, r⟩ := p
    simp only [] at HC
    go_enter_defers Tryz.func33, Tryz.ntmps33
    go_wp2_with fail
    refine (unhide HC).mono ?_
    rintro e w1 ⟨rfl, f1, tv1, r1⟩
    have C1 := f1.cells (unhide CA) (show w.heap.size ≠ R by omega) (by decide)
    have FA := hide ((Frm.of (below_al w (.cells #[.int .i64 0] 24))).trans f1)
    obtain ⟨a, cap, hc, hcap, _, _⟩ := r1.cells
    have c0 := (cells5 hc).1
    have HR1 := hide r1
    have HC1 := hide C1
    clear f1 r1 hc hcap
    cases r with
    | cons t r =>
      have hl0 : 0 < (r.length : Int) + 1 := by omega
      simp only [List.length_cons] at c0
      have z0 := cells_c C1 0 _ rfl
      clear C1
      go_wp2
      have C1 := unhide HC1
      refine leaves_cons (f := 59) (args := #[.pointer (some ⟨w.heap.size, 0, none⟩)]) (by simp) (by simp [go_sem]) ?_
      refine (catch_panics ⟨w.heap.size, 0, none⟩ w1 (.int .i64 0) (cells_c C1 0 _ rfl) (cells_f C1 0)).mono ?_
      rintro e u' w'' ⟨rfl, rfl, rfl⟩
      have k1 := cells_c (cells_set C1 0 (.int .i64 4)) 0 (.int .i64 4) rfl
      have HP : WhPost X R w (wholeO (some (s, t :: r))) (.returned (.int .i64 4)) (w1.setCell ⟨w.heap.size, 0, none⟩ (.int .i64 4)) := ⟨rfl, (unhide FA).setNew (Nat.le_refl _)⟩
      simp [Leaves, settle, results, k1, go_sem]
      exact HP
    | nil =>
      simp only [List.length_nil] at c0
      have z0 := cells_c C1 0 _ rfl
      have z1 := cells_f C1 0
      clear C1
      go_wp2
      have C1 := unhide HC1
      refine leaves_cons (f := 59) (args := #[.pointer (some ⟨w.heap.size, 0, none⟩)]) (by simp) (by simp [go_sem]) ?_
      refine (catch_rests ⟨w.heap.size, 0, none⟩ _).mono ?_
      rintro e u' w'' ⟨rfl, rfl, rfl⟩
      have k1 := cells_c (cells_set C1 0 (.int .i64 0)) 0 (.int .i64 0) rfl
      have HP : WhPost X R w (wholeO (some (s, []))) (.returned (.int .i64 0)) (w1.setCell ⟨w.heap.size, 0, none⟩ (.int .i64 0)) :=
        ⟨rfl, (unhide FA).setNew (Nat.le_refl _), tv1, ((unhide HR1).beside C1 hR (by decide) (by decide)).cast (by simp) (by simp) (by simp)⟩
      simp [Leaves, settle, results, k1, go_sem]
      exact HP
end Go.Proofs.YtloamahbghjjgaaGreatDoor
