/- The contract of a tree's nesting: its loop from the last node on. -/
import Derived.Test.YtloamahbghjjgaaGreatDoorPcH
import Derived.Test.YtloamahbghjjgaaGreatDoorPcG
import Derived.Test.YtloamahbghjjgaaGreatDoorPaX
namespace Go.Proofs.YtloamahbghjjgaaGreatDoor
open Go.RowKit Go.Shelf
attribute [local go_sem] Oper.semAt_some

def innC (nds : List Nd) (p : Nat) : Nat := ((nds[p]?).map fun n => if n.kind = 2 ∨ n.kind = 5 then 1 else 0).getD 0
theorem runN_dnl (t : List (List Int)) (c : Nat → Nat) : ∀ (n : Nat) (arr : List Nat), runN t c n arr = (dnl n).foldl (stepN t c) arr
  | 0, _ => rfl
  | n + 1, _ => runN_dnl t c n _
/-- A row of natural numbers at a block. -/
def ArrRow (W : World) (g : Nat) (arr : List Nat) : Prop := W.heap[g]? = some (.cells (arr.map fun (x : Nat) => Value.int .i64 (x : Int)).toArray 3 (0, 0))
theorem arrRow_lt {W : World} {g : Nat} {arr : List Nat} (h : ArrRow W g arr) : g < W.heap.size := (Array.getElem?_eq_some_iff.1 h).1
theorem arrRow_kept {W W' : World} {row : Option Nat} {g : Nat} {arr : List Nat} (h : ArrRow W g arr) (hg : W.grownBy W' row) (hne : some g ≠ row) : ArrRow W' g arr := (hg.block g (arrRow_lt h) hne).trans h
theorem arrRow_own {β : Type} (g : Nat) (f : β → List Nat) : Own (fun s W => ArrRow W g (f s)) := fun s X Y row hs hg hrow =>
  arrRow_kept hs hg (fun e' => by obtain ⟨o, ho, hc⟩ := hrow g e'.symm; rw [show X.heap[g]? = _ from hs] at ho; cases ho; cases hc)
theorem arrRow_alloc {W : World} {g : Nat} {arr : List Nat} (h : ArrRow W g arr) (o : Obj) : ArrRow (W.alloc o) g arr := arrRow_kept h (World.grownBy_alloc W o none) (by simp)
theorem arrRow_frozen {W : World} {g : Nat} {arr : List Nat} (h : ArrRow W g arr) (j : Nat) : W.frozen? ⟨g, j, none⟩ = false := by
  simp [World.frozen?, show W.heap[g]? = _ from h]
theorem arrRow_cell {W : World} {g : Nat} {arr : List Nat} (h : ArrRow W g arr) (j : Nat) (hj : j < arr.length) : W.cell? ⟨g, j, none⟩ = some (.int .i64 ((arr.getD j 0 : Nat) : Int)) := by
  rw [cell_of_row W g j _ _ (0, 0) h, Array.getElem?_eq_some_iff.2 ⟨by simpa using hj, rfl⟩]
  simp [List.getD_eq_getElem?_getD, List.getElem?_eq_getElem hj]
theorem arrRow_set {W : World} {g : Nat} {arr : List Nat} (h : ArrRow W g arr) (j v : Nat) (_hj : j < arr.length) : ArrRow (W.setCell ⟨g, j, none⟩ (.int .i64 (v : Int))) g (arr.set j v) := by
  obtain ⟨hlt, hk⟩ := Array.getElem?_eq_some_iff.1 h
  show (W.heap.modify g _)[g]? = _
  rw [Array.getElem?_eq_getElem (by rw [Array.size_modify]; exact hlt), Array.getElem_modify_self, hk]
  simp [List.map_set]
theorem arrRow_set' {W : World} {g : Nat} {arr : List Nat} (h : ArrRow W g arr) (j v : Nat) (u : Int) (hj : j < arr.length) (hu : u = (v : Int)) : ArrRow (W.setCell ⟨g, j, none⟩ (.int .i64 u)) g (arr.set j v) := by
  rw [hu]; exact arrRow_set h j v hj
theorem kpB_b {n₀ Bs : Nat} {t : TypeId} {w : World} (hn : n₀ ≤ w.heap.size) (W : World) (l : Nat) (o o' : Obj) (hl : w.heap.size ≤ l) (hW : W.heap[l]? = some o) (hc : o.isCells = false) (hk : o.isWalk = false) : KpB n₀ Bs t W (W.putObj l o') :=
  ⟨belowK_b hn W l o o' hl hW hc hk, fun v h => h.kept (grownBy_putObj' W l o') (fun e => by cases e; rw [show W.heap[Bs]? = _ from h] at hW; cases hW; cases hc)⟩
theorem steps_len (t : List (List Int)) (c : Nat → Nat) : ∀ (ps : List Nat) (arr : List Nat), (ps.foldl (stepN t c) arr).length = arr.length
  | [], _ => rfl
  | p :: ps, arr => by rw [List.foldl_cons, steps_len t c ps]; exact setK_len _ _ _
theorem arrRow_other {W : World} {B g j : Nat} {t : TypeId} {v u : Value} (h : Boxed W B t v) (hne : B ≠ g) : Boxed (W.setCell ⟨g, j, none⟩ u) B t v := by
  have h1 : (W.setCell ⟨g, j, none⟩ u).heap[B]? = W.heap[B]? := by
    show (W.heap.modify g _)[B]? = _
    rw [Array.getElem?_modify, if_neg (fun e => hne e.symm)]
  show (W.setCell ⟨g, j, none⟩ u).heap[B]? = _
  rw [h1]; exact h
theorem arrRow_made (W : World) (n : Nat) : ArrRow (W.alloc (.cells (madeCells #[.int .i64 0] n) 3)) W.heap.size (List.replicate n 0) := by
  show (W.alloc _).heap[W.heap.size]? = _
  rw [World.alloc_heap_new]
  congr 2
  unfold madeCells
  apply Array.ext
  · simp
  · intro i h1 h2
    simp [Nat.mod_one]
theorem setK_le : ∀ (ks : List Int) (arr : List Nat) (v B : Nat), (∀ x ∈ arr, x ≤ B) → v ≤ B → ∀ x ∈ setK arr ks v, x ≤ B
  | [], arr, v, B, h, _, x, hx => h x hx
  | k :: ks, arr, v, B, h, hv, x, hx => setK_le ks (arr.set k.toNat v) v B (fun y hy => by
      rcases List.mem_or_eq_of_mem_set hy with h1 | h1
      · exact h y h1
      · rw [h1]; exact hv) hv x hx
theorem setK_snoc (arr : List Nat) (ks : List Int) (k : Int) (v : Nat) : setK arr (ks ++ [k]) v = (setK arr ks v).set k.toNat v := by unfold setK; simp
theorem steps_le (t : List (List Int)) (c : Nat → Nat) (hc : ∀ p, c p ≤ 1) : ∀ (ps : List Nat) (arr : List Nat) (B : Nat), (∀ x ∈ arr, x ≤ B) → ∀ x ∈ ps.foldl (stepN t c) arr, x ≤ B + ps.length
  | [], _, _, h, x, hx => h x hx
  | p :: ps, arr, B, h, x, hx => by
    have h1 : ∀ y ∈ stepN t c arr p, y ≤ B + 1 := by
      refine setK_le _ _ _ _ (fun y hy => by have := h y hy; omega) ?_
      have h2 := hc p
      have h3 : arr.getD p 0 ≤ B := by
        rw [List.getD_eq_getElem?_getD]
        cases hq : arr[p]? with
        | none => simp
        | some y => exact h y (List.mem_of_getElem? hq)
      omega
    have := steps_le t c hc ps _ (B + 1) h1 x hx
    rw [List.length_cons]; omega
theorem innC_le (nds : List Nd) (p : Nat) : innC nds p ≤ 1 := by
  unfold innC
  cases nds[p]? with
  | none => simp
  | some n => simp only [Option.map_some, Option.getD_some]; split <;> omega
structure KidsFit (nds : List Nd) : Prop where
  pos : 0 < nds.length
  len : nds.length ≤ 1000
  kids : ∀ n ∈ nds, n.kids.length ≤ 1000 ∧ ∀ k ∈ n.kids, 0 ≤ k ∧ k < (nds.length : Int)
set_option maxRecDepth 100000 in
set_option maxHeartbeats 4000000 in
theorem nesting_val (a : Option Addr) (cap : Nat) (nds : List Nd) (w : World) (hn : NodesIn w a nds) (hf : KidsFit nds) :
    Calls Tryz.prog 42 #[.slice a nds.length cap] w fun e w' => e = .returned (.int .i64 (topI ((runN (nds.map (·.kids)) (innC nds) nds.length (List.replicate nds.length 0)).map fun x => ((x : Nat) : Int)))) ∧ Below w.heap.size w w' := by
  have H : ∀ p, p < nds.length → ∃ (nd : Nd) (ka : Option Addr) (kcap : Nat) (g off : Nat) (cs : List Value), a = some ⟨g, off, none⟩ ∧ nds[p]? = some nd ∧ cs = (nd.cells (.slice ka nd.kids.length kcap)).toList ∧ g < w.heap.size ∧ IntsIn w ka nd.kids ∧ w.rangeAt g (off + p * 19) cs := by
    intro p hp
    obtain ⟨g, off, ka, kcap, e, hg, _, hki, hcells⟩ := node_at hn p _ (List.getElem?_eq_getElem hp)
    exact ⟨_, ka, kcap, g, off, _, e, List.getElem?_eq_getElem hp, rfl, hg, hki, nd_range hcells⟩
  obtain ⟨_, _, _, b, off, _, rfl, _, _, hb, _, _⟩ := H 0 hf.pos
  obtain ⟨cf, hcf⟩ : ∃ cf : Nat → List Value, ∀ p, p < nds.length → ∃ (nd : Nd) (ka : Option Addr) (kcap : Nat), nds[p]? = some nd ∧ cf p = (nd.cells (.slice ka nd.kids.length kcap)).toList ∧ IntsIn w ka nd.kids ∧ w.rangeAt b (off + p * 19) (cf p) := by
    have H2 : ∀ p, ∃ cs : List Value, p < nds.length → ∃ (nd : Nd) (ka : Option Addr) (kcap : Nat), nds[p]? = some nd ∧ cs = (nd.cells (.slice ka nd.kids.length kcap)).toList ∧ IntsIn w ka nd.kids ∧ w.rangeAt b (off + p * 19) cs := by
      intro p
      by_cases hp : p < nds.length
      · obtain ⟨nd, ka, kcap, g, off', cs, e, h1, h2, _, h3, h4⟩ := H p hp
        cases e
        exact ⟨cs, fun _ => ⟨nd, ka, kcap, h1, h2, h3, h4⟩⟩
      · exact ⟨[], fun h => absurd h hp⟩
    exact ⟨fun p => Classical.choose (H2 p), fun p hp => Classical.choose_spec (H2 p) hp⟩
  clear H
  have HCF := hide hcf
  have HF := hide hf
  have hl0 := hf.pos
  have hl1 := hf.len
  clear hn hcf hf
  obtain ⟨n, hnl⟩ : ∃ n, nds.length = n := ⟨_, rfl⟩
  have HNL := hide hnl
  rw [hnl] at hl0 hl1 ⊢
  rw [hnl] at HCF
  clear hnl
  obtain ⟨res, hres⟩ : ∃ r, topI ((runN (nds.map (·.kids)) (innC nds) n (List.replicate n 0)).map fun x => ((x : Nat) : Int)) = r := ⟨_, rfl⟩
  rw [hres]
  have HRES := hide hres
  clear hres
  refine (callsIn_wide (n := 5)).1 ?_
  refine callsIn_of_wp_marks Tryz.func42 rfl trivial ?_ rfl
  simp only [Tryz.ntmps42, List.size_toArray, List.length_cons, List.length_nil, Nat.reduceAdd, Nat.reduceSub, Array.replicate_succ, Array.replicate_zero, List.push_toArray, List.append_toArray, List.nil_append, List.cons_append]
  obtain ⟨i0, hi, hz0, hz1, hz2⟩ := info_parts infoInt
  have hmk := run_make (P := Tryz.prog) w 53 3 i0 (.int .i64 0) Tryz.underlying53 hi hz0 .i64 .i64 (n : Int) (n : Int) (by omega) (Int.le_refl _) (by rw [hz2]; omega) (by omega)
  rw [hz1, Nat.mul_one, Int.toNat_natCast] at hmk
  gi_wp2_with (refine ⟨trivial, ?_⟩; gi_at_call 75; refine (back_in _ _ trivial rfl _ _ _ _).mono ?_; rintro e w' ⟨rfl, rfl⟩)
  have bA := arrRow_made w n
  have bB := Boxed.new (w.alloc (.cells (madeCells #[.int .i64 0] n) 3)) 53 (.slice (some ⟨w.heap.size, 0, none⟩) n n)
  have bT := Boxed.new ((w.alloc (.cells (madeCells #[.int .i64 0] n) 3)).alloc (.cells #[.slice (some ⟨w.heap.size, 0, none⟩) n n] 53)) 23 (.slice (some ⟨b, off, none⟩) n cap)
  have hsz : (((w.alloc (.cells (madeCells #[.int .i64 0] n) 3)).alloc (.cells #[.slice (some ⟨w.heap.size, 0, none⟩) n n] 53)).alloc (.cells #[.slice (some ⟨b, off, none⟩) n cap] 23)).heap.size = w.heap.size + 3 := by simp
  have hB0 : Below w.heap.size w (((w.alloc (.cells (madeCells #[.int .i64 0] n) 3)).alloc (.cells #[.slice (some ⟨w.heap.size, 0, none⟩) n n] 53)).alloc (.cells #[.slice (some ⟨b, off, none⟩) n cap] 23)) := (((Below.refl _ w).alloc (Nat.le_refl _) _).alloc (by simp) _).alloc (by simp; omega) _
  replace bA := arrRow_alloc (arrRow_alloc bA (.cells #[.slice (some ⟨w.heap.size, 0, none⟩) n n] 53)) (.cells #[.slice (some ⟨b, off, none⟩) n cap] 23)
  replace bB := bB.alloc (.cells #[.slice (some ⟨b, off, none⟩) n cap] 23)
  rw [World.size_alloc] at bB
  rw [World.size_alloc, World.size_alloc] at bT
  generalize hW0 : (((w.alloc (.cells (madeCells #[.int .i64 0] n) 3)).alloc (.cells #[.slice (some ⟨w.heap.size, 0, none⟩) n n] 53)).alloc (.cells #[.slice (some ⟨b, off, none⟩) n cap] 23)) = W0 at bA bB bT hsz hB0 ⊢
  clear hW0 hmk
  have hcl : ∀ p, p < n → (cf p).length = 19 := fun p hp => by
    obtain ⟨nd, ka, kcap, _, h2, _, _⟩ := unhide HCF p hp
    rw [h2]; rfl
  have hc0 : ∀ p, p < n → W0.rangeAt b (off + p * 19) (cf p) := fun p hp j v hj => by
    obtain ⟨nd, ka, kcap, _, _, _, h4⟩ := unhide HCF p hp
    exact (hB0.cell (p := ⟨b, off + p * 19 + j, none⟩) hb).trans (h4 j v hj)
  refine wpIn_rangeFunc_ownH rfl (by omega) (gf := 122) (lb := #[.pointer (some ⟨w.heap.size + 1 + 1, 0, none⟩)]) rfl trivial (enters_of Tryz.func122 (by kernel_rfl) rfl)
    (back_stops Fence.wide (5 - 1) trivial rfl (by omega) (w.heap.size + 1 + 1) w.heap.size b off n cap cf (by omega) hb hcl W0 (by omega) bT hc0) kpB_t (kpB_b (by omega)) (Below.refl _ _) (fun _ => rfl)
    (fun pre W => (ArrRow W w.heap.size ((pre.map (·.1)).foldl (stepN (nds.map (·.kids)) (innC nds)) (List.replicate n 0)) ∧ Boxed W (w.heap.size + 1) 53 (.slice (some ⟨w.heap.size, 0, none⟩) n n)) ∧ Below w.heap.size w W)
    (fun _ _ _ => False)
    (OwnFrom.and (OwnFrom.and (Own.from (arrRow_own _ _) _) (Own.from (boxed_own _ _ (fun _ => _)) _)) (ownFrom_below (Nat.le_refl _) (by omega)))
    (fun _ _ _ _ _ hs _ _ => hs)
    ⟨⟨bA, bB⟩, hB0⟩
    (fun x a' W => ∃ (Bx : Nat) (nd : Nd) (ka : Option Addr) (kcap : Nat), nds[x.1]? = some nd ∧ IntsIn w ka nd.kids ∧
      a' = { tmps := #[.slice (some ⟨b, off, none⟩) n cap, undef, .int .i64 0, .pointer (some ⟨w.heap.size + 1, 0, none⟩), .int .i64 (x.1 : Int), .pointer (some ⟨Bx, 0, none⟩), undef, undef, undef, .slice (some ⟨b, off, none⟩) n cap, .int .i64 (n : Int), .slice (some ⟨w.heap.size, 0, none⟩) n n, .slice (some ⟨b, off, none⟩) n cap, .func (.func 122) #[] #[.pointer (some ⟨w.heap.size + 1 + 1, 0, none⟩)], .int .i64 (x.1 : Int), .agg (cf x.1).toArray, undef, undef, undef, undef, undef, undef, undef, undef, undef, undef, undef, undef, undef, undef, undef, undef, undef, undef, undef, undef, undef, undef, undef, undef, undef, undef, undef, undef], defers := [] } ∧
      W.cell? ⟨Bx, 0, none⟩ = some (.int .i64 nd.kind) ∧ W.cell? ⟨Bx, 18, none⟩ = some (.slice ka nd.kids.length kcap))
    ?hAx ?assign ?body ?done ?stop
  case hAx =>
    rintro x a' s A B row ⟨Bx, nd, ka, kcap, h1, h2, h4, h5, h6⟩ hg hr
    exact ⟨Bx, nd, ka, kcap, h1, h2, h4, cell_kept h5 hg (fun r e => (hr r e).2), cell_kept h6 hg (fun r e => (hr r e).2)⟩
  case assign =>
    rintro l pre x W K ⟨⟨hA, hBo⟩, hB⟩ hK
    obtain ⟨nd, ka, kcap, h1, h2, h3, h4⟩ := unhide HCF x.1 x.2
    have st := nd_new W nd (.slice ka nd.kids.length kcap) rfl
    have C5 := cells_new W ndT (nd.cells (.slice ka nd.kids.length kcap))
    have c0 := cells_c C5 0 (.int .i64 nd.kind) rfl
    have c18 := cells_c C5 18 (.slice ka nd.kids.length kcap) rfl
    rw [← h2] at st
    have h5 : nd.cells (.slice ka nd.kids.length kcap) = (cf x.1).toArray := by rw [h2, Array.toArray_toList]
    rw [h5] at st C5 c0 c18
    have h2' := h2
    clear h5 h2 hcl hc0 C5
    have zN : (cf x.1).length = 19 := by rw [h2']; rfl
    clear h2'
    generalize hcs : cf x.1 = cs at st c0 c18 zN ⊢
    have HCS := hide hcs
    clear hcs
    gi_wp2
    obtain rfl := unhide HCS
    exact hK _ _ ((KeepsOthers.alloc _ _).from _) ⟨(Below.refl _ W).alloc hB.size _, fun v h => h.alloc _⟩ ⟨⟨arrRow_alloc hA _, hBo.alloc _⟩, hB.alloc hB.size _⟩ ⟨W.heap.size, nd, ka, kcap, h1, h3, rfl, c0, c18⟩
  case body =>
    rintro l pre x a' W hl ⟨r, hr⟩ ⟨⟨hA, hBo⟩, hB⟩ ⟨Bx, nd, ka, kcap, hnd, hki, rfl, hc0, hc18⟩ hlt
    have HB := hide hB
    have HND := hide hnd
    have HKI := hide hki
    obtain ⟨arr, harr⟩ : ∃ arr, (pre.map (·.1)).foldl (stepN (nds.map (·.kids)) (innC nds)) (List.replicate n 0) = arr := ⟨_, rfl⟩
    have HL : Hid (arr.length = n) := hide (by rw [← harr, steps_len]; simp)
    have HLE : Hid (∀ y ∈ arr, y ≤ pre.length) := hide (by
      rw [← harr]
      intro y hy
      have := steps_le _ _ (innC_le nds) _ _ 0 (by simp) y hy
      simpa using this)
    have HS : Hid (((pre ++ [x]).map (·.1)).foldl (stepN (nds.map (·.kids)) (innC nds)) (List.replicate n 0) = setK arr ((nds.map (·.kids)).getD x.1 []) (arr.getD x.1 0 + innC nds x.1)) := hide (by
      rw [List.map_append, List.foldl_append, harr]; rfl)
    have HTK : Hid ((nds.map (·.kids)).getD x.1 [] = nd.kids) := hide (by
      rw [List.getD_eq_getElem?_getD, List.getElem?_map, hnd]; rfl)
    rw [harr] at hA
    have hxn := x.2
    have ca := arrRow_cell hA x.1 (by rw [unhide HL]; exact x.2)
    obtain ⟨v0, hv0⟩ : ∃ v0, arr.getD x.1 0 = v0 := ⟨_, rfl⟩
    have hv1 : v0 ≤ 1000 := by
      have h1 := unhide HLE (arr.getD x.1 0) (by
        rw [List.getD_eq_getElem?_getD, List.getElem?_eq_getElem (by rw [unhide HL]; exact x.2)]
        exact List.getElem_mem _)
      rw [hv0] at h1; omega
    have HV := hide hv0
    rw [hv0] at ca
    have hmem := List.mem_of_getElem? hnd
    obtain ⟨hk1, hk2⟩ := (unhide HF).kids nd hmem
    rw [unhide HNL] at hk2
    have HK2 := hide hk2
    obtain ⟨kl, hkl⟩ : ∃ kl, nd.kids.length = kl := ⟨_, rfl⟩
    have HKL := hide hkl
    rw [hkl] at hk1 hc18
    have cB := hBo.cell
    clear hv0 harr hkl hk2 hnd hki hB hmem hcl
    obtain ⟨kd, hkd⟩ : ∃ kd, nd.kind = kd := ⟨_, rfl⟩
    have HKD := hide hkd
    rw [hkd] at hc0
    clear hkd
    by_cases k2 : kd = 2
    · subst k2
      have harr' : Hid (setK arr nd.kids (v0 + 1) = ((pre ++ [x]).map (·.1)).foldl (stepN (nds.map (·.kids)) (innC nds)) (List.replicate n 0)) := hide (by
        rw [unhide HS, unhide HTK]
        have hc : innC nds x.1 = 1 := by
          unfold innC
          rw [unhide HND]
          simp [unhide HKD]
        rw [hc, unhide HV])
      gi_wp2
      gi_loopw [33] (fun i wr => ∃ j : Nat, i = .int .i64 (j : Int) ∧ j ≤ kl ∧ ArrRow wr w.heap.size (setK arr (nd.kids.take j) (v0 + 1)) ∧ Boxed wr (w.heap.size + 1) 53 (.slice (some ⟨w.heap.size, 0, none⟩) n n) ∧ Hid (Below w.heap.size W wr ∧ KeepsFrom W0.heap.size W wr ∧ ∀ v, Boxed W (w.heap.size + 1 + 1) 23 v → Boxed wr (w.heap.size + 1 + 1) 23 v))
        (fun i _ => kl - (intOf i).toNat)
      case atStart => exact ⟨0, rfl, by omega, by simpa [setK] using hA, hBo, hide ⟨Below.refl _ _, KeepsFrom.refl _ _, fun v h => h⟩⟩
      case round =>
        obtain ⟨j, rfl, hj, hA2, hBo2, HW⟩ := hrel
        have cB2 := hBo2.cell
        have fB2 := hBo2.frozen
        by_cases hlt2 : j < kl
        · have hlti : (j : Int) < (kl : Int) := by omega
          obtain ⟨g2, o2, rfl, x2⟩ := ints_at (ints_below (unhide HKI) ((unhide HB).trans (unhide HW).1)) j (by rw [unhide HKL]; exact hlt2)
          have hkk := unhide HK2 (nd.kids.getD j 0) (by
            rw [List.getD_eq_getElem?_getD, List.getElem?_eq_getElem (by rw [unhide HKL]; exact hlt2)]
            exact List.getElem_mem _)
          obtain ⟨kk, hkk0⟩ : ∃ kk : Nat, nd.kids.getD j 0 = (kk : Int) := ⟨_, (Int.toNat_of_nonneg hkk.1).symm⟩
          have HT : Hid (nd.kids.take (j + 1) = nd.kids.take j ++ [(kk : Int)]) := hide (by
            rw [← hkk0, List.take_succ_eq_append_getElem (by rw [unhide HKL]; exact hlt2), List.getD_eq_getElem?_getD, List.getElem?_eq_getElem (by rw [unhide HKL]; exact hlt2)]; rfl)
          rw [hkk0] at hkk x2
          have hkn : kk < n := by omega
          have hkni : (kk : Int) < (n : Int) := by omega
          have cg := arrRow_cell hA2 kk (by rw [setK_len, unhide HL]; exact hkn)
          have fg := arrRow_frozen hA2 kk
          have HA3 := hide (arrRow_set' hA2 kk (v0 + 1) ((v0 : Int) + 1) (by rw [setK_len, unhide HL]; exact hkn) (by omega))
          generalize (setK arr (nd.kids.take j) (v0 + 1)).getD kk 0 = z at cg
          clear hkk0 hkk
          gi_wp2
          go_roundw
          case rel => exact ⟨j + 1, by go_num, by omega, by rw [unhide HT, setK_snoc, Int.toNat_natCast]; exact unhide HA3, arrRow_other hBo2 (by omega), hide ⟨(unhide HW).1.setCell (p := ⟨w.heap.size, kk, none⟩) (Nat.le_refl _) _, (unhide HW).2.1.trans ((KeepsOthers.setCell _ _ _).from _), fun v h => arrRow_other ((unhide HW).2.2 v h) (by omega)⟩⟩
          case measure => simp [intOf]; omega
        · have hlti : ¬ (j : Int) < (kl : Int) := by omega
          have hA3 : ArrRow wr w.heap.size (((pre ++ [x]).map (·.1)).foldl (stepN (nds.map (·.kids)) (innC nds)) (List.replicate n 0)) := by
            rw [List.take_of_length_le (by rw [unhide HKL]; omega), unhide harr'] at hA2
            exact hA2
          gi_wp2
          exact ⟨by rw [← hsz]; exact (unhide HW).2.1, ⟨(unhide HW).1, (unhide HW).2.2⟩, ⟨⟨hA3, hBo2⟩, (unhide HB).trans (unhide HW).1⟩⟩
    · by_cases k5 : kd = 5
      · subst k5
        have harr' : Hid (setK arr nd.kids (v0 + 1) = ((pre ++ [x]).map (·.1)).foldl (stepN (nds.map (·.kids)) (innC nds)) (List.replicate n 0)) := hide (by
          rw [unhide HS, unhide HTK]
          have hc : innC nds x.1 = 1 := by
            unfold innC
            rw [unhide HND]
            simp [unhide HKD]
          rw [hc, unhide HV])
        gi_wp2
        gi_loopw [33] (fun i wr => ∃ j : Nat, i = .int .i64 (j : Int) ∧ j ≤ kl ∧ ArrRow wr w.heap.size (setK arr (nd.kids.take j) (v0 + 1)) ∧ Boxed wr (w.heap.size + 1) 53 (.slice (some ⟨w.heap.size, 0, none⟩) n n) ∧ Hid (Below w.heap.size W wr ∧ KeepsFrom W0.heap.size W wr ∧ ∀ v, Boxed W (w.heap.size + 1 + 1) 23 v → Boxed wr (w.heap.size + 1 + 1) 23 v))
          (fun i _ => kl - (intOf i).toNat)
        case atStart => exact ⟨0, rfl, by omega, by simpa [setK] using hA, hBo, hide ⟨Below.refl _ _, KeepsFrom.refl _ _, fun v h => h⟩⟩
        case round =>
          obtain ⟨j, rfl, hj, hA2, hBo2, HW⟩ := hrel
          have cB2 := hBo2.cell
          have fB2 := hBo2.frozen
          by_cases hlt2 : j < kl
          · have hlti : (j : Int) < (kl : Int) := by omega
            obtain ⟨g2, o2, rfl, x2⟩ := ints_at (ints_below (unhide HKI) ((unhide HB).trans (unhide HW).1)) j (by rw [unhide HKL]; exact hlt2)
            have hkk := unhide HK2 (nd.kids.getD j 0) (by
              rw [List.getD_eq_getElem?_getD, List.getElem?_eq_getElem (by rw [unhide HKL]; exact hlt2)]
              exact List.getElem_mem _)
            obtain ⟨kk, hkk0⟩ : ∃ kk : Nat, nd.kids.getD j 0 = (kk : Int) := ⟨_, (Int.toNat_of_nonneg hkk.1).symm⟩
            have HT : Hid (nd.kids.take (j + 1) = nd.kids.take j ++ [(kk : Int)]) := hide (by
              rw [← hkk0, List.take_succ_eq_append_getElem (by rw [unhide HKL]; exact hlt2), List.getD_eq_getElem?_getD, List.getElem?_eq_getElem (by rw [unhide HKL]; exact hlt2)]; rfl)
            rw [hkk0] at hkk x2
            have hkn : kk < n := by omega
            have hkni : (kk : Int) < (n : Int) := by omega
            have cg := arrRow_cell hA2 kk (by rw [setK_len, unhide HL]; exact hkn)
            have fg := arrRow_frozen hA2 kk
            have HA3 := hide (arrRow_set' hA2 kk (v0 + 1) ((v0 : Int) + 1) (by rw [setK_len, unhide HL]; exact hkn) (by omega))
            generalize (setK arr (nd.kids.take j) (v0 + 1)).getD kk 0 = z at cg
            clear hkk0 hkk
            gi_wp2
            go_roundw
            case rel => exact ⟨j + 1, by go_num, by omega, by rw [unhide HT, setK_snoc, Int.toNat_natCast]; exact unhide HA3, arrRow_other hBo2 (by omega), hide ⟨(unhide HW).1.setCell (p := ⟨w.heap.size, kk, none⟩) (Nat.le_refl _) _, (unhide HW).2.1.trans ((KeepsOthers.setCell _ _ _).from _), fun v h => arrRow_other ((unhide HW).2.2 v h) (by omega)⟩⟩
            case measure => simp [intOf]; omega
          · have hlti : ¬ (j : Int) < (kl : Int) := by omega
            have hA3 : ArrRow wr w.heap.size (((pre ++ [x]).map (·.1)).foldl (stepN (nds.map (·.kids)) (innC nds)) (List.replicate n 0)) := by
              rw [List.take_of_length_le (by rw [unhide HKL]; omega), unhide harr'] at hA2
              exact hA2
            gi_wp2
            exact ⟨by rw [← hsz]; exact (unhide HW).2.1, ⟨(unhide HW).1, (unhide HW).2.2⟩, ⟨⟨hA3, hBo2⟩, (unhide HB).trans (unhide HW).1⟩⟩
      · have HK25 : Hid (kd ≠ 2 ∧ kd ≠ 5) := hide ⟨k2, k5⟩
        have q2 : (kd == 2) = false := by simpa using k2
        have q5 : (kd == 5) = false := by simpa using k5
        have harr' : Hid (setK arr nd.kids (v0) = ((pre ++ [x]).map (·.1)).foldl (stepN (nds.map (·.kids)) (innC nds)) (List.replicate n 0)) := hide (by
          rw [unhide HS, unhide HTK]
          have hc : innC nds x.1 = 0 := by
            unfold innC
            rw [unhide HND]
            simp [unhide HKD, (unhide HK25).1, (unhide HK25).2]
          rw [hc, unhide HV, Nat.add_zero])
        gi_wp2
        gi_loopw [33] (fun i wr => ∃ j : Nat, i = .int .i64 (j : Int) ∧ j ≤ kl ∧ ArrRow wr w.heap.size (setK arr (nd.kids.take j) (v0)) ∧ Boxed wr (w.heap.size + 1) 53 (.slice (some ⟨w.heap.size, 0, none⟩) n n) ∧ Hid (Below w.heap.size W wr ∧ KeepsFrom W0.heap.size W wr ∧ ∀ v, Boxed W (w.heap.size + 1 + 1) 23 v → Boxed wr (w.heap.size + 1 + 1) 23 v))
          (fun i _ => kl - (intOf i).toNat)
        case atStart => exact ⟨0, rfl, by omega, by simpa [setK] using hA, hBo, hide ⟨Below.refl _ _, KeepsFrom.refl _ _, fun v h => h⟩⟩
        case round =>
          obtain ⟨j, rfl, hj, hA2, hBo2, HW⟩ := hrel
          have cB2 := hBo2.cell
          have fB2 := hBo2.frozen
          by_cases hlt2 : j < kl
          · have hlti : (j : Int) < (kl : Int) := by omega
            obtain ⟨g2, o2, rfl, x2⟩ := ints_at (ints_below (unhide HKI) ((unhide HB).trans (unhide HW).1)) j (by rw [unhide HKL]; exact hlt2)
            have hkk := unhide HK2 (nd.kids.getD j 0) (by
              rw [List.getD_eq_getElem?_getD, List.getElem?_eq_getElem (by rw [unhide HKL]; exact hlt2)]
              exact List.getElem_mem _)
            obtain ⟨kk, hkk0⟩ : ∃ kk : Nat, nd.kids.getD j 0 = (kk : Int) := ⟨_, (Int.toNat_of_nonneg hkk.1).symm⟩
            have HT : Hid (nd.kids.take (j + 1) = nd.kids.take j ++ [(kk : Int)]) := hide (by
              rw [← hkk0, List.take_succ_eq_append_getElem (by rw [unhide HKL]; exact hlt2), List.getD_eq_getElem?_getD, List.getElem?_eq_getElem (by rw [unhide HKL]; exact hlt2)]; rfl)
            rw [hkk0] at hkk x2
            have hkn : kk < n := by omega
            have hkni : (kk : Int) < (n : Int) := by omega
            have cg := arrRow_cell hA2 kk (by rw [setK_len, unhide HL]; exact hkn)
            have fg := arrRow_frozen hA2 kk
            have HA3 := hide (arrRow_set' hA2 kk (v0) ((v0 : Int)) (by rw [setK_len, unhide HL]; exact hkn) (by omega))
            generalize (setK arr (nd.kids.take j) (v0)).getD kk 0 = z at cg
            clear hkk0 hkk
            gi_wp2
            go_roundw
            case rel => exact ⟨j + 1, by go_num, by omega, by rw [unhide HT, setK_snoc, Int.toNat_natCast]; exact unhide HA3, arrRow_other hBo2 (by omega), hide ⟨(unhide HW).1.setCell (p := ⟨w.heap.size, kk, none⟩) (Nat.le_refl _) _, (unhide HW).2.1.trans ((KeepsOthers.setCell _ _ _).from _), fun v h => arrRow_other ((unhide HW).2.2 v h) (by omega)⟩⟩
            case measure => simp [intOf]; omega
          · have hlti : ¬ (j : Int) < (kl : Int) := by omega
            have hA3 : ArrRow wr w.heap.size (((pre ++ [x]).map (·.1)).foldl (stepN (nds.map (·.kids)) (innC nds)) (List.replicate n 0)) := by
              rw [List.take_of_length_le (by rw [unhide HKL]; omega), unhide harr'] at hA2
              exact hA2
            gi_wp2
            exact ⟨by rw [← hsz]; exact (unhide HW).2.1, ⟨(unhide HW).1, (unhide HW).2.2⟩, ⟨⟨hA3, hBo2⟩, (unhide HB).trans (unhide HW).1⟩⟩
  case done =>
    rintro D ys W hD hS ⟨⟨hA, hBo⟩, hB⟩ hK
    rw [hS, ← runN_dnl] at hA
    have HLN : Hid ((runN (nds.map (·.kids)) (innC nds) n (List.replicate n 0)).length = n) := hide (by rw [runN_dnl, steps_len]; simp)
    obtain ⟨rr, hrr⟩ : ∃ rr, runN (nds.map (·.kids)) (innC nds) n (List.replicate n 0) = rr := ⟨_, rfl⟩
    rw [hrr] at hA HLN
    have HR2 : Hid (topI (rr.map fun x => ((x : Nat) : Int)) = res) := hide (by rw [← hrr]; exact unhide HRES)
    have HI : Hid (IntsIn W (some ⟨w.heap.size, 0, none⟩) (rr.map fun (x : Nat) => (x : Int))) := hide (Or.inr ⟨_, _, rfl, arrRow_lt hA, fun i k hi => by
      rw [List.getElem?_map] at hi
      cases hq : rr[i]? with
      | none => rw [hq] at hi; cases hi
      | some y =>
        rw [hq] at hi
        simp only [Option.map_some, Option.some.injEq] at hi
        rw [Nat.zero_add, cell_of_row W w.heap.size i _ _ (0, 0) hA, ← hi]
        simp [hq]⟩)
    have HM := hide (smax_val (some ⟨w.heap.size, 0, none⟩) n (rr.map fun (x : Nat) => (x : Int)) W (unhide HI) (by rw [List.length_map, unhide HLN]; omega) (by rw [List.length_map, unhide HLN]; omega))
    rw [List.length_map, unhide HLN, unhide HR2] at HM
    have cB := hBo.cell
    have HB := hide hB
    have HD := hide hK
    clear hrr hS hB hcl hc0
    gi_wp2_with (refine ⟨trivial, ?_⟩; gi_at_call 76; refine (callsIn_wide.2 (unhide HM)).mono ?_; rintro e w2 ⟨rfl, b2⟩)
    have hD2 : D < W.heap.size := (Array.getElem?_eq_some_iff.1 (unhide HD)).1
    have hK2 : w2.heap[D]? = some (.deferred (some [])) := (b2.block D hD2).trans (unhide HD)
    refine ⟨by simp, .inl ⟨_, _, rfl, run_takeDeferred hK2, ?_⟩⟩
    exact ⟨_, results_tmp rfl _ _ _, rfl, ((unhide HB).trans (b2.mono (unhide HB).size)).trans (belowK_b (w := w) (Nat.le_refl _) w2 D _ _ (by omega) hK2 rfl rfl)⟩
  case stop =>
    rintro D c pre W _ _ h _
    exact h.elim
end Go.Proofs.YtloamahbghjjgaaGreatDoor
