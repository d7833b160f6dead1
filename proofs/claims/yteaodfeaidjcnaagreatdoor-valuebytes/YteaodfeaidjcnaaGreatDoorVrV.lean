/- Toward the contract of the reference's Get, of layer 3: its plain picture, and where nothing is read. -/
import Derived.Test.YteaodfeaidjcnaaGreatDoorVrL
namespace Go.Proofs.YteaodfeaidjcnaaGreatDoor
open Go.RowKit

/-- A row and two slots as results. -/
theorem results_row3 {P : Program} {fn : Func} {p a b : Tmp} {ty : TypeId} (h : fn.results = #[.cell p ty, .tmp a, .tmp b]) (tmps : Array Value) (w : World) (g : Nat) (t : TypeId) (cs : Array Value) (fr : Nat × Nat) (d : TypeDesc)
    (hp : tmps.getD p undef = .pointer (some ⟨g, 0, none⟩)) (hg : w.heap[g]? = some (.cells cs t fr))
    (hu : P.underlying ty = some d) (hd : (match d with | .struct _ | .array _ _ => true | _ => false) = true) (hi : (P.info? ty).map (·.size) = some cs.size)
    (x y : Value) (hx : tmps.getD a undef = x) (hy : tmps.getD b undef = y) :
    (results fn tmps).run P w = .ok (.tuple #[.agg cs, x, y]) w := by
  have hp' : tmps[p]?.getD undef = .pointer (some ⟨g, 0, none⟩) := by simpa using hp
  have hx' : tmps[a]?.getD undef = x := by simpa using hx
  have hy' : tmps[b]?.getD undef = y := by simpa using hy
  simp [results, h, hp', hx', hy', asAddr, run_loadVar_row w g t ty cs fr d hg hu hd hi]

def blank0 : Vl := ⟨0, 0, noText, false, 0⟩
def gB (t : ByteArray) (i : Nat) : Int := ((byteAt t i).toNat : Int)
/-- The eight bytes behind the first, as a number. -/
def num8 (t : ByteArray) : Nat → Int
  | 0 => 0
  | i + 1 => 256 * num8 t i + gB t (i + 1)
/-- What lies at the head of a text, and its length. -/
def getT (t : ByteArray) : Vl × Int :=
  if gB t 0 = 1 then (⟨1, if 9 ≤ t.size then wrap64 (num8 t 8) else 0, noText, false, 0⟩, 9)
  else if gB t 0 = 2 then (if 2 ≤ t.size then (⟨2, 0, if 2 + gB t 1 ≤ t.size then t.extract 2 (2 + gB t 1).toNat else noText, false, 0⟩, 2 + gB t 1) else (⟨2, 0, noText, false, 0⟩, 2))
  else if gB t 0 = 3 then (⟨3, 0, noText, if 2 ≤ t.size then gB t 1 != 0 else false, 0⟩, 2)
  else if gB t 0 = 4 then (⟨4, 0, noText, false, if 2 ≤ t.size then gB t 1 else 0⟩, 2)
  else (⟨gB t 0, 0, noText, false, 0⟩, 1)
def getR (t : ByteArray) (k : Int) : Vl × Int × Int :=
  if t.size = 0 then (blank0, 0, 4) else if gB t 0 = 3 ∧ 2 ≤ t.size ∧ 1 < gB t 1 then (blank0, 0, 4)
    else if vGood (getT t).1 = true ∧ (getT t).2 ≤ t.size then ((getT t).1, k + (getT t).2, 0) else (blank0, 0, 4)
def getV (s : ByteArray) (k : Int) : Vl × Int × Int :=
  if k < 0 ∨ (s.size : Int) < k then (blank0, 0, 3) else getR (s.extract k.toNat s.size) k
def GetPost (r : Vl × Int × Int) (w : World) (e : Ending) (w' : World) : Prop :=
  e = .returned (.tuple #[.agg r.1.cells, .int .i64 r.2.1, .int .i64 r.2.2]) ∧ Below w.heap.size w w'

set_option maxRecDepth 100000 in
set_option maxHeartbeats 2000000 in
theorem get_out (s : ByteArray) (k : Int) (w : World) (h : k < 0 ∨ (s.size : Int) < k) :
    Calls Tryz.prog 21 #[.string s, .int .i64 k] w fun e w' => GetPost (getV s k) w e w' := by
  have e1 : getV s k = (blank0, 0, 3) := by unfold getV; rw [if_pos h]
  rw [e1]
  have E1 := hide e1
  clear e1
  by_cases h0 : k < 0
  · clear h
    have d1 : decide (k < 0) = true := decide_eq_true h0
    clear h0
    go_enter Tryz.func21, Tryz.ntmps21
    go_wp2
    refine bodyPost_ret (results_row3 rfl _ _ _ _ _ _ _ rfl (heap_alloc_new _ _) Tryz.underlying29 rfl (by exact infoRef) _ _ rfl rfl) rfl ?_
    exact ⟨rfl, below_al _ _⟩
  · have d1 : decide (k < 0) = false := decide_eq_false h0
    have d2 : decide ((s.size : Int) < k) = true := decide_eq_true (by omega)
    clear h h0
    go_enter Tryz.func21, Tryz.ntmps21
    go_wp2
    refine bodyPost_ret (results_row3 rfl _ _ _ _ _ _ _ rfl (heap_alloc_new _ _) Tryz.underlying29 rfl (by exact infoRef) _ _ rfl rfl) rfl ?_
    exact ⟨rfl, below_al _ _⟩
end Go.Proofs.YteaodfeaidjcnaaGreatDoor

namespace Go.Proofs.YteaodfeaidjcnaaGreatDoor
open Go.RowKit

theorem getR_bad (t : ByteArray) (k : Int) (v : Vl) (n : Int) (h0 : t.size ≠ 0) (h3 : ¬ (gB t 0 = 3 ∧ 2 ≤ t.size ∧ 1 < gB t 1)) (e : getT t = (v, n)) (h : vGood v = false ∨ (t.size : Int) < n) : getR t k = (blank0, 0, 4) := by
  unfold getR
  rw [if_neg h0, if_neg h3, e, if_neg]
  rintro ⟨h1, h2⟩
  rcases h with h | h
  · rw [h] at h1; cases h1
  · exact absurd h (by simp only [] at h2; omega)
theorem getR_good (t : ByteArray) (k : Int) (v : Vl) (n : Int) (h0 : t.size ≠ 0) (h3 : ¬ (gB t 0 = 3 ∧ 2 ≤ t.size ∧ 1 < gB t 1)) (e : getT t = (v, n)) (hg : vGood v = true) (h : ¬ (t.size : Int) < n) : getR t k = (v, k + n, 0) := by
  unfold getR
  rw [if_neg h0, if_neg h3, e, if_pos ⟨hg, by simp only []; omega⟩]
theorem gB_at (t : ByteArray) (i : Nat) (h : i < t.size) : gB t i = ((t[i]'h).toNat : Int) := by
  unfold gB byteAt
  rw [List.getD_eq_getElem?_getD, List.getElem?_eq_getElem (by exact h)]
  rfl
theorem five_one {w : World} {B : Nat} {t : TypeId} {cs : Array Value} (h : FiveAt w B t cs) (i : Nat) (x : Value) (cs' : Array Value) (e : cs.setIfInBounds i x = cs') : FiveAt (w.setCell ⟨B, i, none⟩ x) B t cs' := by
  subst e
  refine ⟨?_, by rw [Array.size_setIfInBounds]; exact h.2⟩
  rw [heap_setCell_same w B i cs t x h.1]
theorem five_side {w : World} {B : Nat} {t : TypeId} {cs : Array Value} (h : FiveAt w B t cs) (C : Nat) (hC : B ≠ C) (i : Nat) (x : Value) : FiveAt (w.setCell ⟨C, i, none⟩ x) B t cs := by
  refine ⟨?_, h.2⟩
  rw [heap_setCell_other _ _ _ _ hC]
  exact h.1
theorem num8_bound (t : ByteArray) (i : Nat) (hi : i ≤ 8) : 0 ≤ num8 t i ∧ num8 t i ≤ 18446744073709551615 ∧ (i ≤ 7 → num8 t i ≤ 72057594037927935) := by
  have g : ∀ j, 0 ≤ gB t j ∧ gB t j ≤ 255 := fun j => by unfold gB; have := (byteAt t j).toNat_lt; omega
  have g1 := g 1
  have g2 := g 2
  have g3 := g 3
  have g4 := g 4
  have g5 := g 5
  have g6 := g 6
  have g7 := g 7
  have g8 := g 8
  rcases (by omega : i = 0 ∨ i = 1 ∨ i = 2 ∨ i = 3 ∨ i = 4 ∨ i = 5 ∨ i = 6 ∨ i = 7 ∨ i = 8) with rfl | rfl | rfl | rfl | rfl | rfl | rfl | rfl | rfl
  all_goals (simp only [num8, Nat.reduceAdd]; omega)
theorem byte_wrap (c : UInt8) : wrap64 (c.toNat : Int) = (c.toNat : Int) := by
  have := c.toNat_lt
  unfold wrap64; omega

set_option maxRecDepth 100000 in
set_option maxHeartbeats 4000000 in
theorem get_in (s : ByteArray) (k : Nat) (w : World) (hs : s.size ≤ 100000) (hk : k ≤ s.size) :
    Calls Tryz.prog 21 #[.string s, .int .i64 (k : Int)] w fun e w' => GetPost (getR (s.extract k s.size) k) w e w' := by
  have d1 : decide ((k : Int) < 0) = false := decide_eq_false (by omega)
  have d2 : decide ((s.size : Int) < (k : Int)) = false := decide_eq_false (by omega)
  have HTS := hide (show (s.extract k s.size).size = s.size - k by simp)
  obtain ⟨t, ht⟩ : ∃ t, s.extract k s.size = t := ⟨_, rfl⟩
  rw [ht] at HTS ⊢
  have HT := hide ht
  clear ht
  go_enter Tryz.func21, Tryz.ntmps21
  go_upto_region 4 with fail
  rw [unhide HT, show decide (s.size < k) = false from decide_eq_false (by omega)]
  clear HT d1 d2
  have ts : t.size ≤ 100000 := by have := unhide HTS; omega
  have ks : k ≤ 100000 := by omega
  clear hs hk HTS
  cases h0 : ((t.size : Int) == 0)
  · have t0 : 0 < t.size := by rw [beq_eq_false_iff_ne] at h0; omega
    have HT0 : Hid (t.size ≠ 0) := hide (by omega)
    go_upto_region 8 with fail
    rw [byte_wrap]
    have hc0 := gB_at t 0 t0
    have cb : (0 : Int) ≤ ((t[0]'t0).toNat : Int) ∧ ((t[0]'t0).toNat : Int) ≤ 255 := by have := (t[0]'t0).toNat_lt; omega
    obtain ⟨c, hc⟩ : ∃ c : Int, ((t[0]'t0).toNat : Int) = c := ⟨_, rfl⟩
    rw [hc] at hc0 cb ⊢
    clear hc
    have HC := hide hc0
    clear hc0
    obtain ⟨cb1, cb2⟩ := cb
    have HF := hide (five_old w 29 (.int .i64 0) (.int .i64 0) (.string ⟨#[]⟩) (.bool false) (.int .i64 0) (.cells #[.int .i64 c, .int .i64 0, .string ⟨#[]⟩, .bool false, .int .i64 0] 29))
    have HQ := hide (five_new2 w (.cells #[.int .i64 0, .int .i64 0, .string ⟨#[]⟩, .bool false, .int .i64 0] 29) 29 (.int .i64 c) (.int .i64 0) (.string ⟨#[]⟩) (.bool false) (.int .i64 0))
    have HB := hide (below_al2 w (.cells #[.int .i64 0, .int .i64 0, .string ⟨#[]⟩, .bool false, .int .i64 0] 29) (.cells #[.int .i64 c, .int .i64 0, .string ⟨#[]⟩, .bool false, .int .i64 0] 29))
    generalize hw3 : (w.alloc (.cells #[.int .i64 0, .int .i64 0, .string ⟨#[]⟩, .bool false, .int .i64 0] 29)).alloc (.cells #[.int .i64 c, .int .i64 0, .string ⟨#[]⟩, .bool false, .int .i64 0] 29) = w3 at HF HQ HB ⊢
    clear hw3
    have c0 : w3.cell? ⟨w.heap.size, 0, none⟩ = some (.int .i64 0) := five_at (unhide HF) _ _ rfl
    have d0 : w3.cell? ⟨w.heap.size + 1, 0, none⟩ = some (.int .i64 c) := five_at (unhide HQ) _ _ rfl
    have c1 : w3.cell? ⟨w.heap.size, 1, none⟩ = some (.int .i64 0) := five_at (unhide HF) _ _ rfl
    have d1 : w3.cell? ⟨w.heap.size + 1, 1, none⟩ = some (.int .i64 0) := five_at (unhide HQ) _ _ rfl
    have c2 : w3.cell? ⟨w.heap.size, 2, none⟩ = some (.string ⟨#[]⟩) := five_at (unhide HF) _ _ rfl
    have d2 : w3.cell? ⟨w.heap.size + 1, 2, none⟩ = some (.string ⟨#[]⟩) := five_at (unhide HQ) _ _ rfl
    have c3 : w3.cell? ⟨w.heap.size, 3, none⟩ = some (.bool false) := five_at (unhide HF) _ _ rfl
    have d3 : w3.cell? ⟨w.heap.size + 1, 3, none⟩ = some (.bool false) := five_at (unhide HQ) _ _ rfl
    have c4 : w3.cell? ⟨w.heap.size, 4, none⟩ = some (.int .i64 0) := five_at (unhide HF) _ _ rfl
    have d4 : w3.cell? ⟨w.heap.size + 1, 4, none⟩ = some (.int .i64 0) := five_at (unhide HQ) _ _ rfl
    have f0 := five_f (unhide HF) 0
    have g0 := five_f (unhide HQ) 0
    have f1 := five_f (unhide HF) 1
    have g1 := five_f (unhide HQ) 1
    have f2 := five_f (unhide HF) 2
    have g2 := five_f (unhide HQ) 2
    have f3 := five_f (unhide HF) 3
    have g3 := five_f (unhide HQ) 3
    have f4 := five_f (unhide HF) 4
    have g4 := five_f (unhide HQ) 4
    cases m1 : (c == 1)
    · cases m2 : (c == 2)
      · cases m3 : (c == 3)
        · cases m4 : (c == 4)
          · have HN3 : Hid (¬ (gB t 0 = 3 ∧ 2 ≤ t.size ∧ 1 < gB t 1)) := hide (fun h => by rw [beq_eq_false_iff_ne] at m3; exact m3 ((unhide HC).symm.trans h.1))
            have E : Hid (getT t = (⟨c, 0, noText, false, 0⟩, 1)) := hide (by rw [beq_eq_false_iff_ne] at m1 m2 m3 m4; unfold getT; rw [unhide HC, if_neg m1, if_neg m2, if_neg m3, if_neg m4])
            go_wp2_with fail
            refine (good3_ref (⟨c, 0, ⟨#[]⟩, false, 0⟩ : Vl) _ (by exact (by decide : noText.size ≤ 1000000))).mono ?_
            rintro e w5 ⟨rfl, b5⟩
            replace HF := hide (five_below (unhide HF) b5 (five_lt (unhide HF)))
            replace HQ := hide (five_below (unhide HQ) b5 (five_lt (unhide HQ)))
            replace HB := hide (below_nx (unhide HB) b5)
            clear c0 d0 f0 g0 c1 d1 f1 g1 c2 d2 f2 g2 c3 d3 f3 g3 c4 d4 f4 g4
            clear b5
            have c0 : w5.cell? ⟨w.heap.size, 0, none⟩ = some (.int .i64 0) := five_at (unhide HF) _ _ rfl
            have d0 : w5.cell? ⟨w.heap.size + 1, 0, none⟩ = some (.int .i64 c) := five_at (unhide HQ) _ _ rfl
            have c1 : w5.cell? ⟨w.heap.size, 1, none⟩ = some (.int .i64 0) := five_at (unhide HF) _ _ rfl
            have d1 : w5.cell? ⟨w.heap.size + 1, 1, none⟩ = some (.int .i64 0) := five_at (unhide HQ) _ _ rfl
            have c2 : w5.cell? ⟨w.heap.size, 2, none⟩ = some (.string ⟨#[]⟩) := five_at (unhide HF) _ _ rfl
            have d2 : w5.cell? ⟨w.heap.size + 1, 2, none⟩ = some (.string ⟨#[]⟩) := five_at (unhide HQ) _ _ rfl
            have c3 : w5.cell? ⟨w.heap.size, 3, none⟩ = some (.bool false) := five_at (unhide HF) _ _ rfl
            have d3 : w5.cell? ⟨w.heap.size + 1, 3, none⟩ = some (.bool false) := five_at (unhide HQ) _ _ rfl
            have c4 : w5.cell? ⟨w.heap.size, 4, none⟩ = some (.int .i64 0) := five_at (unhide HF) _ _ rfl
            have d4 : w5.cell? ⟨w.heap.size + 1, 4, none⟩ = some (.int .i64 0) := five_at (unhide HQ) _ _ rfl
            have f0 := five_f (unhide HF) 0
            have g0 := five_f (unhide HQ) 0
            have f1 := five_f (unhide HF) 1
            have g1 := five_f (unhide HQ) 1
            have f2 := five_f (unhide HF) 2
            have g2 := five_f (unhide HQ) 2
            have f3 := five_f (unhide HF) 3
            have g3 := five_f (unhide HQ) 3
            have f4 := five_f (unhide HF) 4
            have g4 := five_f (unhide HQ) 4
            obtain ⟨y, hy⟩ : ∃ y, vGood (⟨c, 0, ⟨#[]⟩, false, 0⟩ : Vl) = y := ⟨_, rfl⟩
            rw [hy]
            have HY := hide hy
            clear hy
            cases y
            · have E2 := hide (getR_bad t k _ _ (unhide HT0) (unhide HN3) (unhide E) (Or.inl (unhide HY)))
              go_wp2
              refine bodyPost_ret (results_row3 rfl _ _ _ _ _ _ _ rfl (five_set (unhide HF) _ _ _ _ _).1 Tryz.underlying29 rfl (by exact infoRef) _ _ rfl rfl) rfl ?_
              exact ⟨by rw [unhide E2]; rfl, below_five (unhide HB) (Nat.le_refl _) _ _ _ _ _⟩
            · cases hn : decide ((t.size : Int) < 1)
              · have E2 := hide (getR_good t k _ _ (unhide HT0) (unhide HN3) (unhide E) (unhide HY) (of_decide_eq_false hn))
                go_wp2
                refine bodyPost_ret (results_row3 rfl _ _ _ _ _ _ _ rfl (five_set (unhide HF) _ _ _ _ _).1 Tryz.underlying29 rfl (by exact infoRef) _ _ rfl rfl) rfl ?_
                exact ⟨by rw [unhide E2]; rfl, below_five (unhide HB) (Nat.le_refl _) _ _ _ _ _⟩
              · have E2 := hide (getR_bad t k _ _ (unhide HT0) (unhide HN3) (unhide E) (Or.inr (of_decide_eq_true hn)))
                go_wp2
                refine bodyPost_ret (results_row3 rfl _ _ _ _ _ _ _ rfl (five_set (unhide HF) _ _ _ _ _).1 Tryz.underlying29 rfl (by exact infoRef) _ _ rfl rfl) rfl ?_
                exact ⟨by rw [unhide E2]; rfl, below_five (unhide HB) (Nat.le_refl _) _ _ _ _ _⟩
          · have HN3 : Hid (¬ (gB t 0 = 3 ∧ 2 ≤ t.size ∧ 1 < gB t 1)) := hide (fun h => by rw [beq_eq_false_iff_ne] at m3; exact m3 ((unhide HC).symm.trans h.1))
            have E : Hid (getT t = (⟨c, 0, noText, false, if 2 ≤ t.size then gB t 1 else 0⟩, 2)) := hide (by rw [beq_eq_false_iff_ne] at m1 m2 m3; rw [beq_iff_eq] at m4; unfold getT; rw [unhide HC, if_neg m1, if_neg m2, if_neg m3, if_pos m4, m4])
            by_cases h2 : 2 ≤ t.size
            · have h2' : (2 : Int) ≤ (t.size : Int) := by omega
              rw [if_pos h2] at E
              have hc1 := gB_at t 1 (by omega)
              go_upto_region 34 with fail
              rw [byte_wrap]
              obtain ⟨q, hq⟩ : ∃ q : Int, ((t[1]'(by omega)).toNat : Int) = q := ⟨_, rfl⟩
              rw [hq] at hc1 ⊢
              rw [hc1] at E
              clear hc1 hq
              replace HF := hide (five_side (unhide HF) (w.heap.size + 1) (by omega) 4 (.int .i64 q))
              replace HQ := hide (five_one (unhide HQ) 4 (.int .i64 q) #[.int .i64 c, .int .i64 0, .string ⟨#[]⟩, .bool false, .int .i64 q] rfl)
              replace HB := hide ((unhide HB).setCell (p := ⟨w.heap.size + 1, 4, none⟩) (show w.heap.size ≤ w.heap.size + 1 by omega) (.int .i64 q))
              generalize hw4 : w3.setCell ⟨w.heap.size + 1, 4, none⟩ (.int .i64 q) = w4 at HF HQ HB ⊢
              clear hw4
              clear c0 d0 f0 g0 c1 d1 f1 g1 c2 d2 f2 g2 c3 d3 f3 g3 c4 d4 f4 g4
              have c0 : w4.cell? ⟨w.heap.size, 0, none⟩ = some (.int .i64 0) := five_at (unhide HF) _ _ rfl
              have d0 : w4.cell? ⟨w.heap.size + 1, 0, none⟩ = some (.int .i64 c) := five_at (unhide HQ) _ _ rfl
              have c1 : w4.cell? ⟨w.heap.size, 1, none⟩ = some (.int .i64 0) := five_at (unhide HF) _ _ rfl
              have d1 : w4.cell? ⟨w.heap.size + 1, 1, none⟩ = some (.int .i64 0) := five_at (unhide HQ) _ _ rfl
              have c2 : w4.cell? ⟨w.heap.size, 2, none⟩ = some (.string ⟨#[]⟩) := five_at (unhide HF) _ _ rfl
              have d2 : w4.cell? ⟨w.heap.size + 1, 2, none⟩ = some (.string ⟨#[]⟩) := five_at (unhide HQ) _ _ rfl
              have c3 : w4.cell? ⟨w.heap.size, 3, none⟩ = some (.bool false) := five_at (unhide HF) _ _ rfl
              have d3 : w4.cell? ⟨w.heap.size + 1, 3, none⟩ = some (.bool false) := five_at (unhide HQ) _ _ rfl
              have c4 : w4.cell? ⟨w.heap.size, 4, none⟩ = some (.int .i64 0) := five_at (unhide HF) _ _ rfl
              have d4 : w4.cell? ⟨w.heap.size + 1, 4, none⟩ = some (.int .i64 q) := five_at (unhide HQ) _ _ rfl
              have f0 := five_f (unhide HF) 0
              have g0 := five_f (unhide HQ) 0
              have f1 := five_f (unhide HF) 1
              have g1 := five_f (unhide HQ) 1
              have f2 := five_f (unhide HF) 2
              have g2 := five_f (unhide HQ) 2
              have f3 := five_f (unhide HF) 3
              have g3 := five_f (unhide HQ) 3
              have f4 := five_f (unhide HF) 4
              have g4 := five_f (unhide HQ) 4
              go_wp2_with fail
              refine (good3_ref (⟨c, 0, ⟨#[]⟩, false, q⟩ : Vl) _ (by exact (by decide : noText.size ≤ 1000000))).mono ?_
              rintro e w5 ⟨rfl, b5⟩
              replace HF := hide (five_below (unhide HF) b5 (five_lt (unhide HF)))
              replace HQ := hide (five_below (unhide HQ) b5 (five_lt (unhide HQ)))
              replace HB := hide (below_nx (unhide HB) b5)
              clear c0 d0 f0 g0 c1 d1 f1 g1 c2 d2 f2 g2 c3 d3 f3 g3 c4 d4 f4 g4
              clear b5
              have c0 : w5.cell? ⟨w.heap.size, 0, none⟩ = some (.int .i64 0) := five_at (unhide HF) _ _ rfl
              have d0 : w5.cell? ⟨w.heap.size + 1, 0, none⟩ = some (.int .i64 c) := five_at (unhide HQ) _ _ rfl
              have c1 : w5.cell? ⟨w.heap.size, 1, none⟩ = some (.int .i64 0) := five_at (unhide HF) _ _ rfl
              have d1 : w5.cell? ⟨w.heap.size + 1, 1, none⟩ = some (.int .i64 0) := five_at (unhide HQ) _ _ rfl
              have c2 : w5.cell? ⟨w.heap.size, 2, none⟩ = some (.string ⟨#[]⟩) := five_at (unhide HF) _ _ rfl
              have d2 : w5.cell? ⟨w.heap.size + 1, 2, none⟩ = some (.string ⟨#[]⟩) := five_at (unhide HQ) _ _ rfl
              have c3 : w5.cell? ⟨w.heap.size, 3, none⟩ = some (.bool false) := five_at (unhide HF) _ _ rfl
              have d3 : w5.cell? ⟨w.heap.size + 1, 3, none⟩ = some (.bool false) := five_at (unhide HQ) _ _ rfl
              have c4 : w5.cell? ⟨w.heap.size, 4, none⟩ = some (.int .i64 0) := five_at (unhide HF) _ _ rfl
              have d4 : w5.cell? ⟨w.heap.size + 1, 4, none⟩ = some (.int .i64 q) := five_at (unhide HQ) _ _ rfl
              have f0 := five_f (unhide HF) 0
              have g0 := five_f (unhide HQ) 0
              have f1 := five_f (unhide HF) 1
              have g1 := five_f (unhide HQ) 1
              have f2 := five_f (unhide HF) 2
              have g2 := five_f (unhide HQ) 2
              have f3 := five_f (unhide HF) 3
              have g3 := five_f (unhide HQ) 3
              have f4 := five_f (unhide HF) 4
              have g4 := five_f (unhide HQ) 4
              obtain ⟨y, hy⟩ : ∃ y, vGood (⟨c, 0, ⟨#[]⟩, false, q⟩ : Vl) = y := ⟨_, rfl⟩
              rw [hy]
              have HY := hide hy
              clear hy
              cases y
              · have E2 := hide (getR_bad t k _ _ (unhide HT0) (unhide HN3) (unhide E) (Or.inl (unhide HY)))
                go_wp2
                refine bodyPost_ret (results_row3 rfl _ _ _ _ _ _ _ rfl (five_set (unhide HF) _ _ _ _ _).1 Tryz.underlying29 rfl (by exact infoRef) _ _ rfl rfl) rfl ?_
                exact ⟨by rw [unhide E2]; rfl, below_five (unhide HB) (Nat.le_refl _) _ _ _ _ _⟩
              · cases hn : decide ((t.size : Int) < 2)
                · have E2 := hide (getR_good t k _ _ (unhide HT0) (unhide HN3) (unhide E) (unhide HY) (of_decide_eq_false hn))
                  go_wp2
                  refine bodyPost_ret (results_row3 rfl _ _ _ _ _ _ _ rfl (five_set (unhide HF) _ _ _ _ _).1 Tryz.underlying29 rfl (by exact infoRef) _ _ rfl rfl) rfl ?_
                  exact ⟨by rw [unhide E2]; rfl, below_five (unhide HB) (Nat.le_refl _) _ _ _ _ _⟩
                · have E2 := hide (getR_bad t k _ _ (unhide HT0) (unhide HN3) (unhide E) (Or.inr (of_decide_eq_true hn)))
                  go_wp2
                  refine bodyPost_ret (results_row3 rfl _ _ _ _ _ _ _ rfl (five_set (unhide HF) _ _ _ _ _).1 Tryz.underlying29 rfl (by exact infoRef) _ _ rfl rfl) rfl ?_
                  exact ⟨by rw [unhide E2]; rfl, below_five (unhide HB) (Nat.le_refl _) _ _ _ _ _⟩
            · rw [if_neg h2] at E
              have h2' : ¬ (2 : Int) ≤ (t.size : Int) := by omega
              go_wp2_with fail
              refine (good3_ref (⟨c, 0, ⟨#[]⟩, false, 0⟩ : Vl) _ (by exact (by decide : noText.size ≤ 1000000))).mono ?_
              rintro e w5 ⟨rfl, b5⟩
              replace HF := hide (five_below (unhide HF) b5 (five_lt (unhide HF)))
              replace HQ := hide (five_below (unhide HQ) b5 (five_lt (unhide HQ)))
              replace HB := hide (below_nx (unhide HB) b5)
              clear c0 d0 f0 g0 c1 d1 f1 g1 c2 d2 f2 g2 c3 d3 f3 g3 c4 d4 f4 g4
              clear b5
              have c0 : w5.cell? ⟨w.heap.size, 0, none⟩ = some (.int .i64 0) := five_at (unhide HF) _ _ rfl
              have d0 : w5.cell? ⟨w.heap.size + 1, 0, none⟩ = some (.int .i64 c) := five_at (unhide HQ) _ _ rfl
              have c1 : w5.cell? ⟨w.heap.size, 1, none⟩ = some (.int .i64 0) := five_at (unhide HF) _ _ rfl
              have d1 : w5.cell? ⟨w.heap.size + 1, 1, none⟩ = some (.int .i64 0) := five_at (unhide HQ) _ _ rfl
              have c2 : w5.cell? ⟨w.heap.size, 2, none⟩ = some (.string ⟨#[]⟩) := five_at (unhide HF) _ _ rfl
              have d2 : w5.cell? ⟨w.heap.size + 1, 2, none⟩ = some (.string ⟨#[]⟩) := five_at (unhide HQ) _ _ rfl
              have c3 : w5.cell? ⟨w.heap.size, 3, none⟩ = some (.bool false) := five_at (unhide HF) _ _ rfl
              have d3 : w5.cell? ⟨w.heap.size + 1, 3, none⟩ = some (.bool false) := five_at (unhide HQ) _ _ rfl
              have c4 : w5.cell? ⟨w.heap.size, 4, none⟩ = some (.int .i64 0) := five_at (unhide HF) _ _ rfl
              have d4 : w5.cell? ⟨w.heap.size + 1, 4, none⟩ = some (.int .i64 0) := five_at (unhide HQ) _ _ rfl
              have f0 := five_f (unhide HF) 0
              have g0 := five_f (unhide HQ) 0
              have f1 := five_f (unhide HF) 1
              have g1 := five_f (unhide HQ) 1
              have f2 := five_f (unhide HF) 2
              have g2 := five_f (unhide HQ) 2
              have f3 := five_f (unhide HF) 3
              have g3 := five_f (unhide HQ) 3
              have f4 := five_f (unhide HF) 4
              have g4 := five_f (unhide HQ) 4
              obtain ⟨y, hy⟩ : ∃ y, vGood (⟨c, 0, ⟨#[]⟩, false, 0⟩ : Vl) = y := ⟨_, rfl⟩
              rw [hy]
              have HY := hide hy
              clear hy
              cases y
              · have E2 := hide (getR_bad t k _ _ (unhide HT0) (unhide HN3) (unhide E) (Or.inl (unhide HY)))
                go_wp2
                refine bodyPost_ret (results_row3 rfl _ _ _ _ _ _ _ rfl (five_set (unhide HF) _ _ _ _ _).1 Tryz.underlying29 rfl (by exact infoRef) _ _ rfl rfl) rfl ?_
                exact ⟨by rw [unhide E2]; rfl, below_five (unhide HB) (Nat.le_refl _) _ _ _ _ _⟩
              · cases hn : decide ((t.size : Int) < 2)
                · exact absurd (of_decide_eq_false hn) (by omega)
                · have E2 := hide (getR_bad t k _ _ (unhide HT0) (unhide HN3) (unhide E) (Or.inr (of_decide_eq_true hn)))
                  go_wp2
                  refine bodyPost_ret (results_row3 rfl _ _ _ _ _ _ _ rfl (five_set (unhide HF) _ _ _ _ _).1 Tryz.underlying29 rfl (by exact infoRef) _ _ rfl rfl) rfl ?_
                  exact ⟨by rw [unhide E2]; rfl, below_five (unhide HB) (Nat.le_refl _) _ _ _ _ _⟩
        · by_cases h2 : 2 ≤ t.size
          · have h2' : (2 : Int) ≤ (t.size : Int) := by omega
            have hc1 := gB_at t 1 (by omega)
            go_upto_region 28 with fail
            obtain ⟨q, hq⟩ : ∃ q : Int, ((t[1]'(by omega)).toNat : Int) = q := ⟨_, rfl⟩
            rw [hq] at hc1 ⊢
            have HC1 := hide hc1
            clear hc1
            replace HF := hide (five_side (unhide HF) (w.heap.size + 1) (by omega) 3 (.bool (q != 0)))
            replace HQ := hide (five_one (unhide HQ) 3 (.bool (q != 0)) #[.int .i64 c, .int .i64 0, .string ⟨#[]⟩, .bool (q != 0), .int .i64 0] rfl)
            replace HB := hide ((unhide HB).setCell (p := ⟨w.heap.size + 1, 3, none⟩) (show w.heap.size ≤ w.heap.size + 1 by omega) (.bool (q != 0)))
            generalize hw4 : w3.setCell ⟨w.heap.size + 1, 3, none⟩ (.bool (q != 0)) = w4 at HF HQ HB ⊢
            clear hw4
            clear c0 d0 f0 g0 c1 d1 f1 g1 c2 d2 f2 g2 c3 d3 f3 g3 c4 d4 f4 g4
            have c0 : w4.cell? ⟨w.heap.size, 0, none⟩ = some (.int .i64 0) := five_at (unhide HF) _ _ rfl
            have d0 : w4.cell? ⟨w.heap.size + 1, 0, none⟩ = some (.int .i64 c) := five_at (unhide HQ) _ _ rfl
            have c1 : w4.cell? ⟨w.heap.size, 1, none⟩ = some (.int .i64 0) := five_at (unhide HF) _ _ rfl
            have d1 : w4.cell? ⟨w.heap.size + 1, 1, none⟩ = some (.int .i64 0) := five_at (unhide HQ) _ _ rfl
            have c2 : w4.cell? ⟨w.heap.size, 2, none⟩ = some (.string ⟨#[]⟩) := five_at (unhide HF) _ _ rfl
            have d2 : w4.cell? ⟨w.heap.size + 1, 2, none⟩ = some (.string ⟨#[]⟩) := five_at (unhide HQ) _ _ rfl
            have c3 : w4.cell? ⟨w.heap.size, 3, none⟩ = some (.bool false) := five_at (unhide HF) _ _ rfl
            have d3 : w4.cell? ⟨w.heap.size + 1, 3, none⟩ = some (.bool (q != 0)) := five_at (unhide HQ) _ _ rfl
            have c4 : w4.cell? ⟨w.heap.size, 4, none⟩ = some (.int .i64 0) := five_at (unhide HF) _ _ rfl
            have d4 : w4.cell? ⟨w.heap.size + 1, 4, none⟩ = some (.int .i64 0) := five_at (unhide HQ) _ _ rfl
            have f0 := five_f (unhide HF) 0
            have g0 := five_f (unhide HQ) 0
            have f1 := five_f (unhide HF) 1
            have g1 := five_f (unhide HQ) 1
            have f2 := five_f (unhide HF) 2
            have g2 := five_f (unhide HQ) 2
            have f3 := five_f (unhide HF) 3
            have g3 := five_f (unhide HQ) 3
            have f4 := five_f (unhide HF) 4
            have g4 := five_f (unhide HQ) 4
            cases j1 : decide (1 < q)
            · have HN3 : Hid (¬ (gB t 0 = 3 ∧ 2 ≤ t.size ∧ 1 < gB t 1)) := hide (fun h => by have h3 := h.2.2; rw [unhide HC1] at h3; exact absurd h3 (of_decide_eq_false j1))
              have E : Hid (getT t = (⟨c, 0, noText, (q != 0), 0⟩, 2)) := hide (by rw [beq_eq_false_iff_ne] at m1 m2; rw [beq_iff_eq] at m3; unfold getT; rw [unhide HC, unhide HC1, if_neg m1, if_neg m2, if_pos m3, m3, if_pos h2])
              have j2 : (t[1]'(by omega)).toNat ≤ 1 := by have := of_decide_eq_false j1; omega
              have j3 : ¬ 1 < (t[1]'(by omega)).toNat := by omega
              have j4 : ¬ (1 : Int) < ((t[1]'(by omega)).toNat : Int) := by omega
              clear j1 hq
              go_upto_region 34 with fail
              go_wp2_with fail
              refine (good3_ref (⟨c, 0, ⟨#[]⟩, (q != 0), 0⟩ : Vl) _ (by exact (by decide : noText.size ≤ 1000000))).mono ?_
              rintro e w5 ⟨rfl, b5⟩
              replace HF := hide (five_below (unhide HF) b5 (five_lt (unhide HF)))
              replace HQ := hide (five_below (unhide HQ) b5 (five_lt (unhide HQ)))
              replace HB := hide (below_nx (unhide HB) b5)
              clear c0 d0 f0 g0 c1 d1 f1 g1 c2 d2 f2 g2 c3 d3 f3 g3 c4 d4 f4 g4
              clear b5
              have c0 : w5.cell? ⟨w.heap.size, 0, none⟩ = some (.int .i64 0) := five_at (unhide HF) _ _ rfl
              have d0 : w5.cell? ⟨w.heap.size + 1, 0, none⟩ = some (.int .i64 c) := five_at (unhide HQ) _ _ rfl
              have c1 : w5.cell? ⟨w.heap.size, 1, none⟩ = some (.int .i64 0) := five_at (unhide HF) _ _ rfl
              have d1 : w5.cell? ⟨w.heap.size + 1, 1, none⟩ = some (.int .i64 0) := five_at (unhide HQ) _ _ rfl
              have c2 : w5.cell? ⟨w.heap.size, 2, none⟩ = some (.string ⟨#[]⟩) := five_at (unhide HF) _ _ rfl
              have d2 : w5.cell? ⟨w.heap.size + 1, 2, none⟩ = some (.string ⟨#[]⟩) := five_at (unhide HQ) _ _ rfl
              have c3 : w5.cell? ⟨w.heap.size, 3, none⟩ = some (.bool false) := five_at (unhide HF) _ _ rfl
              have d3 : w5.cell? ⟨w.heap.size + 1, 3, none⟩ = some (.bool (q != 0)) := five_at (unhide HQ) _ _ rfl
              have c4 : w5.cell? ⟨w.heap.size, 4, none⟩ = some (.int .i64 0) := five_at (unhide HF) _ _ rfl
              have d4 : w5.cell? ⟨w.heap.size + 1, 4, none⟩ = some (.int .i64 0) := five_at (unhide HQ) _ _ rfl
              have f0 := five_f (unhide HF) 0
              have g0 := five_f (unhide HQ) 0
              have f1 := five_f (unhide HF) 1
              have g1 := five_f (unhide HQ) 1
              have f2 := five_f (unhide HF) 2
              have g2 := five_f (unhide HQ) 2
              have f3 := five_f (unhide HF) 3
              have g3 := five_f (unhide HQ) 3
              have f4 := five_f (unhide HF) 4
              have g4 := five_f (unhide HQ) 4
              obtain ⟨y, hy⟩ : ∃ y, vGood (⟨c, 0, ⟨#[]⟩, (q != 0), 0⟩ : Vl) = y := ⟨_, rfl⟩
              rw [hy]
              have HY := hide hy
              clear hy
              cases y
              · have E2 := hide (getR_bad t k _ _ (unhide HT0) (unhide HN3) (unhide E) (Or.inl (unhide HY)))
                go_wp2
                refine bodyPost_ret (results_row3 rfl _ _ _ _ _ _ _ rfl (five_set (unhide HF) _ _ _ _ _).1 Tryz.underlying29 rfl (by exact infoRef) _ _ rfl rfl) rfl ?_
                exact ⟨by rw [unhide E2]; rfl, below_five (unhide HB) (Nat.le_refl _) _ _ _ _ _⟩
              · cases hn : decide ((t.size : Int) < 2)
                · have E2 := hide (getR_good t k _ _ (unhide HT0) (unhide HN3) (unhide E) (unhide HY) (of_decide_eq_false hn))
                  go_wp2
                  refine bodyPost_ret (results_row3 rfl _ _ _ _ _ _ _ rfl (five_set (unhide HF) _ _ _ _ _).1 Tryz.underlying29 rfl (by exact infoRef) _ _ rfl rfl) rfl ?_
                  exact ⟨by rw [unhide E2]; rfl, below_five (unhide HB) (Nat.le_refl _) _ _ _ _ _⟩
                · have E2 := hide (getR_bad t k _ _ (unhide HT0) (unhide HN3) (unhide E) (Or.inr (of_decide_eq_true hn)))
                  go_wp2
                  refine bodyPost_ret (results_row3 rfl _ _ _ _ _ _ _ rfl (five_set (unhide HF) _ _ _ _ _).1 Tryz.underlying29 rfl (by exact infoRef) _ _ rfl rfl) rfl ?_
                  exact ⟨by rw [unhide E2]; rfl, below_five (unhide HB) (Nat.le_refl _) _ _ _ _ _⟩
            · have E2 : Hid (getR t k = (blank0, 0, 4)) := hide (by unfold getR; rw [if_neg (unhide HT0), if_pos ⟨by rw [unhide HC]; rw [beq_iff_eq] at m3; exact m3, h2, by rw [unhide HC1]; exact of_decide_eq_true j1⟩])
              have j3 : 1 < (t[1]'(by omega)).toNat := by have := of_decide_eq_true j1; omega
              have j4 : (1 : Int) < ((t[1]'(by omega)).toNat : Int) := by omega
              clear j1 hq
              go_wp2
              refine bodyPost_ret (results_row3 rfl _ _ _ _ _ _ _ rfl (five_set (unhide HF) _ _ _ _ _).1 Tryz.underlying29 rfl (by exact infoRef) _ _ rfl rfl) rfl ?_
              exact ⟨by rw [unhide E2]; rfl, below_five (unhide HB) (Nat.le_refl _) _ _ _ _ _⟩
          · have h2' : ¬ (2 : Int) ≤ (t.size : Int) := by omega
            have HN3 : Hid (¬ (gB t 0 = 3 ∧ 2 ≤ t.size ∧ 1 < gB t 1)) := hide (fun h => h2 h.2.1)
            have E : Hid (getT t = (⟨c, 0, noText, false, 0⟩, 2)) := hide (by rw [beq_eq_false_iff_ne] at m1 m2; rw [beq_iff_eq] at m3; unfold getT; rw [unhide HC, if_neg m1, if_neg m2, if_pos m3, m3, if_neg h2])
            go_wp2_with fail
            refine (good3_ref (⟨c, 0, ⟨#[]⟩, false, 0⟩ : Vl) _ (by exact (by decide : noText.size ≤ 1000000))).mono ?_
            rintro e w5 ⟨rfl, b5⟩
            replace HF := hide (five_below (unhide HF) b5 (five_lt (unhide HF)))
            replace HQ := hide (five_below (unhide HQ) b5 (five_lt (unhide HQ)))
            replace HB := hide (below_nx (unhide HB) b5)
            clear c0 d0 f0 g0 c1 d1 f1 g1 c2 d2 f2 g2 c3 d3 f3 g3 c4 d4 f4 g4
            clear b5
            have c0 : w5.cell? ⟨w.heap.size, 0, none⟩ = some (.int .i64 0) := five_at (unhide HF) _ _ rfl
            have d0 : w5.cell? ⟨w.heap.size + 1, 0, none⟩ = some (.int .i64 c) := five_at (unhide HQ) _ _ rfl
            have c1 : w5.cell? ⟨w.heap.size, 1, none⟩ = some (.int .i64 0) := five_at (unhide HF) _ _ rfl
            have d1 : w5.cell? ⟨w.heap.size + 1, 1, none⟩ = some (.int .i64 0) := five_at (unhide HQ) _ _ rfl
            have c2 : w5.cell? ⟨w.heap.size, 2, none⟩ = some (.string ⟨#[]⟩) := five_at (unhide HF) _ _ rfl
            have d2 : w5.cell? ⟨w.heap.size + 1, 2, none⟩ = some (.string ⟨#[]⟩) := five_at (unhide HQ) _ _ rfl
            have c3 : w5.cell? ⟨w.heap.size, 3, none⟩ = some (.bool false) := five_at (unhide HF) _ _ rfl
            have d3 : w5.cell? ⟨w.heap.size + 1, 3, none⟩ = some (.bool false) := five_at (unhide HQ) _ _ rfl
            have c4 : w5.cell? ⟨w.heap.size, 4, none⟩ = some (.int .i64 0) := five_at (unhide HF) _ _ rfl
            have d4 : w5.cell? ⟨w.heap.size + 1, 4, none⟩ = some (.int .i64 0) := five_at (unhide HQ) _ _ rfl
            have f0 := five_f (unhide HF) 0
            have g0 := five_f (unhide HQ) 0
            have f1 := five_f (unhide HF) 1
            have g1 := five_f (unhide HQ) 1
            have f2 := five_f (unhide HF) 2
            have g2 := five_f (unhide HQ) 2
            have f3 := five_f (unhide HF) 3
            have g3 := five_f (unhide HQ) 3
            have f4 := five_f (unhide HF) 4
            have g4 := five_f (unhide HQ) 4
            obtain ⟨y, hy⟩ : ∃ y, vGood (⟨c, 0, ⟨#[]⟩, false, 0⟩ : Vl) = y := ⟨_, rfl⟩
            rw [hy]
            have HY := hide hy
            clear hy
            cases y
            · have E2 := hide (getR_bad t k _ _ (unhide HT0) (unhide HN3) (unhide E) (Or.inl (unhide HY)))
              go_wp2
              refine bodyPost_ret (results_row3 rfl _ _ _ _ _ _ _ rfl (five_set (unhide HF) _ _ _ _ _).1 Tryz.underlying29 rfl (by exact infoRef) _ _ rfl rfl) rfl ?_
              exact ⟨by rw [unhide E2]; rfl, below_five (unhide HB) (Nat.le_refl _) _ _ _ _ _⟩
            · cases hn : decide ((t.size : Int) < 2)
              · exact absurd (of_decide_eq_false hn) (by omega)
              · have E2 := hide (getR_bad t k _ _ (unhide HT0) (unhide HN3) (unhide E) (Or.inr (of_decide_eq_true hn)))
                go_wp2
                refine bodyPost_ret (results_row3 rfl _ _ _ _ _ _ _ rfl (five_set (unhide HF) _ _ _ _ _).1 Tryz.underlying29 rfl (by exact infoRef) _ _ rfl rfl) rfl ?_
                exact ⟨by rw [unhide E2]; rfl, below_five (unhide HB) (Nat.le_refl _) _ _ _ _ _⟩
      · have HN3 : Hid (¬ (gB t 0 = 3 ∧ 2 ≤ t.size ∧ 1 < gB t 1)) := hide (fun h => by have h1 := h.1; rw [unhide HC] at h1; rw [beq_iff_eq] at m2; omega)
        have m3 : (c == 3) = false := by rw [beq_iff_eq] at m2; rw [m2]; rfl
        by_cases h2 : 2 ≤ t.size
        · have h2' : (2 : Int) ≤ (t.size : Int) := by omega
          have hc1 := gB_at t 1 (by omega)
          go_upto_region 22 with fail
          rw [byte_wrap]
          obtain ⟨q, hq⟩ : ∃ q : Nat, (t[1]'(by omega)).toNat = q := ⟨_, rfl⟩
          have qb : q ≤ 255 := by have := (t[1]'(by omega)).toNat_lt; omega
          rw [hq] at hc1 ⊢
          clear hq
          have hwq : wrap64 (2 + (q : Int)) = 2 + (q : Int) := by unfold wrap64; omega
          rw [hwq]
          clear hwq
          have HC1 := hide hc1
          clear hc1
          by_cases h9 : 2 + q ≤ t.size
          · have E : Hid (getT t = (⟨c, 0, t.extract 2 (2 + q), false, 0⟩, 2 + (q : Int))) := hide (by rw [beq_eq_false_iff_ne] at m1; rw [beq_iff_eq] at m2; unfold getT; rw [unhide HC, unhide HC1, if_neg m1, if_pos m2, m2, if_pos h2, if_pos (by omega), show (2 + (q : Int)).toNat = 2 + q by omega])
            have h9' : (2 : Int) + (q : Int) ≤ (t.size : Int) := by omega
            go_upto_region 34 with fail
            obtain ⟨x, hx⟩ : ∃ x, t.extract 2 (2 + q) = x := ⟨_, rfl⟩
            have xs : x.size ≤ 1000000 := by rw [← hx, ByteArray.size_extract]; omega
            rw [hx] at E ⊢
            clear hx
            have HXS := hide xs
            clear xs
            replace HF := hide (five_side (unhide HF) (w.heap.size + 1) (by omega) 2 (.string x))
            replace HQ := hide (five_one (unhide HQ) 2 (.string x) #[.int .i64 c, .int .i64 0, .string x, .bool false, .int .i64 0] rfl)
            replace HB := hide ((unhide HB).setCell (p := ⟨w.heap.size + 1, 2, none⟩) (show w.heap.size ≤ w.heap.size + 1 by omega) (.string x))
            generalize hw4 : w3.setCell ⟨w.heap.size + 1, 2, none⟩ (.string x) = w4 at HF HQ HB ⊢
            clear hw4
            clear c0 d0 f0 g0 c1 d1 f1 g1 c2 d2 f2 g2 c3 d3 f3 g3 c4 d4 f4 g4
            have c0 : w4.cell? ⟨w.heap.size, 0, none⟩ = some (.int .i64 0) := five_at (unhide HF) _ _ rfl
            have d0 : w4.cell? ⟨w.heap.size + 1, 0, none⟩ = some (.int .i64 c) := five_at (unhide HQ) _ _ rfl
            have c1 : w4.cell? ⟨w.heap.size, 1, none⟩ = some (.int .i64 0) := five_at (unhide HF) _ _ rfl
            have d1 : w4.cell? ⟨w.heap.size + 1, 1, none⟩ = some (.int .i64 0) := five_at (unhide HQ) _ _ rfl
            have c2 : w4.cell? ⟨w.heap.size, 2, none⟩ = some (.string ⟨#[]⟩) := five_at (unhide HF) _ _ rfl
            have d2 : w4.cell? ⟨w.heap.size + 1, 2, none⟩ = some (.string x) := five_at (unhide HQ) _ _ rfl
            have c3 : w4.cell? ⟨w.heap.size, 3, none⟩ = some (.bool false) := five_at (unhide HF) _ _ rfl
            have d3 : w4.cell? ⟨w.heap.size + 1, 3, none⟩ = some (.bool false) := five_at (unhide HQ) _ _ rfl
            have c4 : w4.cell? ⟨w.heap.size, 4, none⟩ = some (.int .i64 0) := five_at (unhide HF) _ _ rfl
            have d4 : w4.cell? ⟨w.heap.size + 1, 4, none⟩ = some (.int .i64 0) := five_at (unhide HQ) _ _ rfl
            have f0 := five_f (unhide HF) 0
            have g0 := five_f (unhide HQ) 0
            have f1 := five_f (unhide HF) 1
            have g1 := five_f (unhide HQ) 1
            have f2 := five_f (unhide HF) 2
            have g2 := five_f (unhide HQ) 2
            have f3 := five_f (unhide HF) 3
            have g3 := five_f (unhide HQ) 3
            have f4 := five_f (unhide HF) 4
            have g4 := five_f (unhide HQ) 4
            go_wp2_with fail
            refine (good3_ref (⟨c, 0, x, false, 0⟩ : Vl) _ (by exact unhide HXS)).mono ?_
            rintro e w5 ⟨rfl, b5⟩
            replace HF := hide (five_below (unhide HF) b5 (five_lt (unhide HF)))
            replace HQ := hide (five_below (unhide HQ) b5 (five_lt (unhide HQ)))
            replace HB := hide (below_nx (unhide HB) b5)
            clear c0 d0 f0 g0 c1 d1 f1 g1 c2 d2 f2 g2 c3 d3 f3 g3 c4 d4 f4 g4
            clear b5
            have c0 : w5.cell? ⟨w.heap.size, 0, none⟩ = some (.int .i64 0) := five_at (unhide HF) _ _ rfl
            have d0 : w5.cell? ⟨w.heap.size + 1, 0, none⟩ = some (.int .i64 c) := five_at (unhide HQ) _ _ rfl
            have c1 : w5.cell? ⟨w.heap.size, 1, none⟩ = some (.int .i64 0) := five_at (unhide HF) _ _ rfl
            have d1 : w5.cell? ⟨w.heap.size + 1, 1, none⟩ = some (.int .i64 0) := five_at (unhide HQ) _ _ rfl
            have c2 : w5.cell? ⟨w.heap.size, 2, none⟩ = some (.string ⟨#[]⟩) := five_at (unhide HF) _ _ rfl
            have d2 : w5.cell? ⟨w.heap.size + 1, 2, none⟩ = some (.string x) := five_at (unhide HQ) _ _ rfl
            have c3 : w5.cell? ⟨w.heap.size, 3, none⟩ = some (.bool false) := five_at (unhide HF) _ _ rfl
            have d3 : w5.cell? ⟨w.heap.size + 1, 3, none⟩ = some (.bool false) := five_at (unhide HQ) _ _ rfl
            have c4 : w5.cell? ⟨w.heap.size, 4, none⟩ = some (.int .i64 0) := five_at (unhide HF) _ _ rfl
            have d4 : w5.cell? ⟨w.heap.size + 1, 4, none⟩ = some (.int .i64 0) := five_at (unhide HQ) _ _ rfl
            have f0 := five_f (unhide HF) 0
            have g0 := five_f (unhide HQ) 0
            have f1 := five_f (unhide HF) 1
            have g1 := five_f (unhide HQ) 1
            have f2 := five_f (unhide HF) 2
            have g2 := five_f (unhide HQ) 2
            have f3 := five_f (unhide HF) 3
            have g3 := five_f (unhide HQ) 3
            have f4 := five_f (unhide HF) 4
            have g4 := five_f (unhide HQ) 4
            obtain ⟨y, hy⟩ : ∃ y, vGood (⟨c, 0, x, false, 0⟩ : Vl) = y := ⟨_, rfl⟩
            rw [hy]
            have HY := hide hy
            clear hy
            cases y
            · have E2 := hide (getR_bad t k _ _ (unhide HT0) (unhide HN3) (unhide E) (Or.inl (unhide HY)))
              go_wp2
              refine bodyPost_ret (results_row3 rfl _ _ _ _ _ _ _ rfl (five_set (unhide HF) _ _ _ _ _).1 Tryz.underlying29 rfl (by exact infoRef) _ _ rfl rfl) rfl ?_
              exact ⟨by rw [unhide E2]; rfl, below_five (unhide HB) (Nat.le_refl _) _ _ _ _ _⟩
            · cases hn : decide ((t.size : Int) < (2 + (q : Int)))
              · have E2 := hide (getR_good t k _ _ (unhide HT0) (unhide HN3) (unhide E) (unhide HY) (of_decide_eq_false hn))
                go_wp2
                refine bodyPost_ret (results_row3 rfl _ _ _ _ _ _ _ rfl (five_set (unhide HF) _ _ _ _ _).1 Tryz.underlying29 rfl (by exact infoRef) _ _ rfl rfl) rfl ?_
                exact ⟨by rw [unhide E2]; rfl, below_five (unhide HB) (Nat.le_refl _) _ _ _ _ _⟩
              · have E2 := hide (getR_bad t k _ _ (unhide HT0) (unhide HN3) (unhide E) (Or.inr (of_decide_eq_true hn)))
                go_wp2
                refine bodyPost_ret (results_row3 rfl _ _ _ _ _ _ _ rfl (five_set (unhide HF) _ _ _ _ _).1 Tryz.underlying29 rfl (by exact infoRef) _ _ rfl rfl) rfl ?_
                exact ⟨by rw [unhide E2]; rfl, below_five (unhide HB) (Nat.le_refl _) _ _ _ _ _⟩
          · have E : Hid (getT t = (⟨c, 0, noText, false, 0⟩, 2 + (q : Int))) := hide (by rw [beq_eq_false_iff_ne] at m1; rw [beq_iff_eq] at m2; unfold getT; rw [unhide HC, unhide HC1, if_neg m1, if_pos m2, m2, if_pos h2, if_neg (by omega)])
            have h9' : ¬ (2 : Int) + (q : Int) ≤ (t.size : Int) := by omega
            go_wp2_with fail
            refine (good3_ref (⟨c, 0, ⟨#[]⟩, false, 0⟩ : Vl) _ (by exact (by decide : noText.size ≤ 1000000))).mono ?_
            rintro e w5 ⟨rfl, b5⟩
            replace HF := hide (five_below (unhide HF) b5 (five_lt (unhide HF)))
            replace HQ := hide (five_below (unhide HQ) b5 (five_lt (unhide HQ)))
            replace HB := hide (below_nx (unhide HB) b5)
            clear c0 d0 f0 g0 c1 d1 f1 g1 c2 d2 f2 g2 c3 d3 f3 g3 c4 d4 f4 g4
            clear b5
            have c0 : w5.cell? ⟨w.heap.size, 0, none⟩ = some (.int .i64 0) := five_at (unhide HF) _ _ rfl
            have d0 : w5.cell? ⟨w.heap.size + 1, 0, none⟩ = some (.int .i64 c) := five_at (unhide HQ) _ _ rfl
            have c1 : w5.cell? ⟨w.heap.size, 1, none⟩ = some (.int .i64 0) := five_at (unhide HF) _ _ rfl
            have d1 : w5.cell? ⟨w.heap.size + 1, 1, none⟩ = some (.int .i64 0) := five_at (unhide HQ) _ _ rfl
            have c2 : w5.cell? ⟨w.heap.size, 2, none⟩ = some (.string ⟨#[]⟩) := five_at (unhide HF) _ _ rfl
            have d2 : w5.cell? ⟨w.heap.size + 1, 2, none⟩ = some (.string ⟨#[]⟩) := five_at (unhide HQ) _ _ rfl
            have c3 : w5.cell? ⟨w.heap.size, 3, none⟩ = some (.bool false) := five_at (unhide HF) _ _ rfl
            have d3 : w5.cell? ⟨w.heap.size + 1, 3, none⟩ = some (.bool false) := five_at (unhide HQ) _ _ rfl
            have c4 : w5.cell? ⟨w.heap.size, 4, none⟩ = some (.int .i64 0) := five_at (unhide HF) _ _ rfl
            have d4 : w5.cell? ⟨w.heap.size + 1, 4, none⟩ = some (.int .i64 0) := five_at (unhide HQ) _ _ rfl
            have f0 := five_f (unhide HF) 0
            have g0 := five_f (unhide HQ) 0
            have f1 := five_f (unhide HF) 1
            have g1 := five_f (unhide HQ) 1
            have f2 := five_f (unhide HF) 2
            have g2 := five_f (unhide HQ) 2
            have f3 := five_f (unhide HF) 3
            have g3 := five_f (unhide HQ) 3
            have f4 := five_f (unhide HF) 4
            have g4 := five_f (unhide HQ) 4
            obtain ⟨y, hy⟩ : ∃ y, vGood (⟨c, 0, ⟨#[]⟩, false, 0⟩ : Vl) = y := ⟨_, rfl⟩
            rw [hy]
            have HY := hide hy
            clear hy
            cases y
            · have E2 := hide (getR_bad t k _ _ (unhide HT0) (unhide HN3) (unhide E) (Or.inl (unhide HY)))
              go_wp2
              refine bodyPost_ret (results_row3 rfl _ _ _ _ _ _ _ rfl (five_set (unhide HF) _ _ _ _ _).1 Tryz.underlying29 rfl (by exact infoRef) _ _ rfl rfl) rfl ?_
              exact ⟨by rw [unhide E2]; rfl, below_five (unhide HB) (Nat.le_refl _) _ _ _ _ _⟩
            · cases hn : decide ((t.size : Int) < (2 + (q : Int)))
              · exact absurd (of_decide_eq_false hn) (by omega)
              · have E2 := hide (getR_bad t k _ _ (unhide HT0) (unhide HN3) (unhide E) (Or.inr (of_decide_eq_true hn)))
                go_wp2
                refine bodyPost_ret (results_row3 rfl _ _ _ _ _ _ _ rfl (five_set (unhide HF) _ _ _ _ _).1 Tryz.underlying29 rfl (by exact infoRef) _ _ rfl rfl) rfl ?_
                exact ⟨by rw [unhide E2]; rfl, below_five (unhide HB) (Nat.le_refl _) _ _ _ _ _⟩
        · have h2' : ¬ (2 : Int) ≤ (t.size : Int) := by omega
          have E : Hid (getT t = (⟨c, 0, noText, false, 0⟩, 2)) := hide (by rw [beq_eq_false_iff_ne] at m1; rw [beq_iff_eq] at m2; unfold getT; rw [unhide HC, if_neg m1, if_pos m2, m2, if_neg h2])
          go_wp2_with fail
          refine (good3_ref (⟨c, 0, ⟨#[]⟩, false, 0⟩ : Vl) _ (by exact (by decide : noText.size ≤ 1000000))).mono ?_
          rintro e w5 ⟨rfl, b5⟩
          replace HF := hide (five_below (unhide HF) b5 (five_lt (unhide HF)))
          replace HQ := hide (five_below (unhide HQ) b5 (five_lt (unhide HQ)))
          replace HB := hide (below_nx (unhide HB) b5)
          clear c0 d0 f0 g0 c1 d1 f1 g1 c2 d2 f2 g2 c3 d3 f3 g3 c4 d4 f4 g4
          clear b5
          have c0 : w5.cell? ⟨w.heap.size, 0, none⟩ = some (.int .i64 0) := five_at (unhide HF) _ _ rfl
          have d0 : w5.cell? ⟨w.heap.size + 1, 0, none⟩ = some (.int .i64 c) := five_at (unhide HQ) _ _ rfl
          have c1 : w5.cell? ⟨w.heap.size, 1, none⟩ = some (.int .i64 0) := five_at (unhide HF) _ _ rfl
          have d1 : w5.cell? ⟨w.heap.size + 1, 1, none⟩ = some (.int .i64 0) := five_at (unhide HQ) _ _ rfl
          have c2 : w5.cell? ⟨w.heap.size, 2, none⟩ = some (.string ⟨#[]⟩) := five_at (unhide HF) _ _ rfl
          have d2 : w5.cell? ⟨w.heap.size + 1, 2, none⟩ = some (.string ⟨#[]⟩) := five_at (unhide HQ) _ _ rfl
          have c3 : w5.cell? ⟨w.heap.size, 3, none⟩ = some (.bool false) := five_at (unhide HF) _ _ rfl
          have d3 : w5.cell? ⟨w.heap.size + 1, 3, none⟩ = some (.bool false) := five_at (unhide HQ) _ _ rfl
          have c4 : w5.cell? ⟨w.heap.size, 4, none⟩ = some (.int .i64 0) := five_at (unhide HF) _ _ rfl
          have d4 : w5.cell? ⟨w.heap.size + 1, 4, none⟩ = some (.int .i64 0) := five_at (unhide HQ) _ _ rfl
          have f0 := five_f (unhide HF) 0
          have g0 := five_f (unhide HQ) 0
          have f1 := five_f (unhide HF) 1
          have g1 := five_f (unhide HQ) 1
          have f2 := five_f (unhide HF) 2
          have g2 := five_f (unhide HQ) 2
          have f3 := five_f (unhide HF) 3
          have g3 := five_f (unhide HQ) 3
          have f4 := five_f (unhide HF) 4
          have g4 := five_f (unhide HQ) 4
          obtain ⟨y, hy⟩ : ∃ y, vGood (⟨c, 0, ⟨#[]⟩, false, 0⟩ : Vl) = y := ⟨_, rfl⟩
          rw [hy]
          have HY := hide hy
          clear hy
          cases y
          · have E2 := hide (getR_bad t k _ _ (unhide HT0) (unhide HN3) (unhide E) (Or.inl (unhide HY)))
            go_wp2
            refine bodyPost_ret (results_row3 rfl _ _ _ _ _ _ _ rfl (five_set (unhide HF) _ _ _ _ _).1 Tryz.underlying29 rfl (by exact infoRef) _ _ rfl rfl) rfl ?_
            exact ⟨by rw [unhide E2]; rfl, below_five (unhide HB) (Nat.le_refl _) _ _ _ _ _⟩
          · cases hn : decide ((t.size : Int) < 2)
            · exact absurd (of_decide_eq_false hn) (by omega)
            · have E2 := hide (getR_bad t k _ _ (unhide HT0) (unhide HN3) (unhide E) (Or.inr (of_decide_eq_true hn)))
              go_wp2
              refine bodyPost_ret (results_row3 rfl _ _ _ _ _ _ _ rfl (five_set (unhide HF) _ _ _ _ _).1 Tryz.underlying29 rfl (by exact infoRef) _ _ rfl rfl) rfl ?_
              exact ⟨by rw [unhide E2]; rfl, below_five (unhide HB) (Nat.le_refl _) _ _ _ _ _⟩
    · have HN3 : Hid (¬ (gB t 0 = 3 ∧ 2 ≤ t.size ∧ 1 < gB t 1)) := hide (fun h => by have h1 := h.1; rw [unhide HC] at h1; rw [beq_iff_eq] at m1; omega)
      have E : Hid (getT t = (⟨c, if 9 ≤ t.size then wrap64 (num8 t 8) else 0, noText, false, 0⟩, 9)) := hide (by rw [beq_iff_eq] at m1; unfold getT; rw [unhide HC, if_pos m1, m1])
      by_cases h9 : 9 ≤ t.size
      · have h9' : (9 : Int) ≤ (t.size : Int) := by omega
        rw [if_pos h9] at E
        go_wp2
        go_loopw [10, 11] (fun vx vi wr => ∃ i : Nat, vi = .int .i64 ((i : Int) + 1) ∧ vx = .int .u64 (num8 t i) ∧ i ≤ 8 ∧ Hid (wr = w3)) (fun _ vi _ => (9 - intOf vi).toNat)
        case atStart => exact ⟨0, rfl, rfl, by omega, hide rfl⟩
        case round =>
          obtain ⟨i, rfl, rfl, hi, HW⟩ := hrel
          have hw := unhide HW
          clear HW
          subst hw
          obtain ⟨y, hy⟩ : ∃ y, num8 t i = y := ⟨_, rfl⟩
          have yb := num8_bound t i hi
          rw [hy] at yb ⊢
          obtain ⟨yb1, yb2, yb3⟩ := yb
          by_cases hi8 : i = 8
          · subst hi8
            rw [hy] at E
            go_upto_region 34 with fail
            clear hy yb3
            obtain ⟨q, hq⟩ : ∃ q, wrap64 y = q := ⟨_, rfl⟩
            rw [hq] at E ⊢
            clear hq
            replace HF := hide (five_side (unhide HF) (w.heap.size + 1) (by omega) 1 (.int .i64 q))
            replace HQ := hide (five_one (unhide HQ) 1 (.int .i64 q) #[.int .i64 c, .int .i64 q, .string ⟨#[]⟩, .bool false, .int .i64 0] rfl)
            replace HB := hide ((unhide HB).setCell (p := ⟨w.heap.size + 1, 1, none⟩) (show w.heap.size ≤ w.heap.size + 1 by omega) (.int .i64 q))
            generalize hw4 : wr.setCell ⟨w.heap.size + 1, 1, none⟩ (.int .i64 q) = w4 at HF HQ HB ⊢
            clear hw4
            clear c0 d0 f0 g0 c1 d1 f1 g1 c2 d2 f2 g2 c3 d3 f3 g3 c4 d4 f4 g4
            have c0 : w4.cell? ⟨w.heap.size, 0, none⟩ = some (.int .i64 0) := five_at (unhide HF) _ _ rfl
            have d0 : w4.cell? ⟨w.heap.size + 1, 0, none⟩ = some (.int .i64 c) := five_at (unhide HQ) _ _ rfl
            have c1 : w4.cell? ⟨w.heap.size, 1, none⟩ = some (.int .i64 0) := five_at (unhide HF) _ _ rfl
            have d1 : w4.cell? ⟨w.heap.size + 1, 1, none⟩ = some (.int .i64 q) := five_at (unhide HQ) _ _ rfl
            have c2 : w4.cell? ⟨w.heap.size, 2, none⟩ = some (.string ⟨#[]⟩) := five_at (unhide HF) _ _ rfl
            have d2 : w4.cell? ⟨w.heap.size + 1, 2, none⟩ = some (.string ⟨#[]⟩) := five_at (unhide HQ) _ _ rfl
            have c3 : w4.cell? ⟨w.heap.size, 3, none⟩ = some (.bool false) := five_at (unhide HF) _ _ rfl
            have d3 : w4.cell? ⟨w.heap.size + 1, 3, none⟩ = some (.bool false) := five_at (unhide HQ) _ _ rfl
            have c4 : w4.cell? ⟨w.heap.size, 4, none⟩ = some (.int .i64 0) := five_at (unhide HF) _ _ rfl
            have d4 : w4.cell? ⟨w.heap.size + 1, 4, none⟩ = some (.int .i64 0) := five_at (unhide HQ) _ _ rfl
            have f0 := five_f (unhide HF) 0
            have g0 := five_f (unhide HQ) 0
            have f1 := five_f (unhide HF) 1
            have g1 := five_f (unhide HQ) 1
            have f2 := five_f (unhide HF) 2
            have g2 := five_f (unhide HQ) 2
            have f3 := five_f (unhide HF) 3
            have g3 := five_f (unhide HQ) 3
            have f4 := five_f (unhide HF) 4
            have g4 := five_f (unhide HQ) 4
            go_wp2_with fail
            refine (good3_ref (⟨c, q, ⟨#[]⟩, false, 0⟩ : Vl) _ (by exact (by decide : noText.size ≤ 1000000))).mono ?_
            rintro e w5 ⟨rfl, b5⟩
            replace HF := hide (five_below (unhide HF) b5 (five_lt (unhide HF)))
            replace HQ := hide (five_below (unhide HQ) b5 (five_lt (unhide HQ)))
            replace HB := hide (below_nx (unhide HB) b5)
            clear c0 d0 f0 g0 c1 d1 f1 g1 c2 d2 f2 g2 c3 d3 f3 g3 c4 d4 f4 g4
            clear b5
            have c0 : w5.cell? ⟨w.heap.size, 0, none⟩ = some (.int .i64 0) := five_at (unhide HF) _ _ rfl
            have d0 : w5.cell? ⟨w.heap.size + 1, 0, none⟩ = some (.int .i64 c) := five_at (unhide HQ) _ _ rfl
            have c1 : w5.cell? ⟨w.heap.size, 1, none⟩ = some (.int .i64 0) := five_at (unhide HF) _ _ rfl
            have d1 : w5.cell? ⟨w.heap.size + 1, 1, none⟩ = some (.int .i64 q) := five_at (unhide HQ) _ _ rfl
            have c2 : w5.cell? ⟨w.heap.size, 2, none⟩ = some (.string ⟨#[]⟩) := five_at (unhide HF) _ _ rfl
            have d2 : w5.cell? ⟨w.heap.size + 1, 2, none⟩ = some (.string ⟨#[]⟩) := five_at (unhide HQ) _ _ rfl
            have c3 : w5.cell? ⟨w.heap.size, 3, none⟩ = some (.bool false) := five_at (unhide HF) _ _ rfl
            have d3 : w5.cell? ⟨w.heap.size + 1, 3, none⟩ = some (.bool false) := five_at (unhide HQ) _ _ rfl
            have c4 : w5.cell? ⟨w.heap.size, 4, none⟩ = some (.int .i64 0) := five_at (unhide HF) _ _ rfl
            have d4 : w5.cell? ⟨w.heap.size + 1, 4, none⟩ = some (.int .i64 0) := five_at (unhide HQ) _ _ rfl
            have f0 := five_f (unhide HF) 0
            have g0 := five_f (unhide HQ) 0
            have f1 := five_f (unhide HF) 1
            have g1 := five_f (unhide HQ) 1
            have f2 := five_f (unhide HF) 2
            have g2 := five_f (unhide HQ) 2
            have f3 := five_f (unhide HF) 3
            have g3 := five_f (unhide HQ) 3
            have f4 := five_f (unhide HF) 4
            have g4 := five_f (unhide HQ) 4
            obtain ⟨y, hy⟩ : ∃ y, vGood (⟨c, q, ⟨#[]⟩, false, 0⟩ : Vl) = y := ⟨_, rfl⟩
            rw [hy]
            have HY := hide hy
            clear hy
            cases y
            · have E2 := hide (getR_bad t k _ _ (unhide HT0) (unhide HN3) (unhide E) (Or.inl (unhide HY)))
              go_wp2
              refine bodyPost_ret (results_row3 rfl _ _ _ _ _ _ _ rfl (five_set (unhide HF) _ _ _ _ _).1 Tryz.underlying29 rfl (by exact infoRef) _ _ rfl rfl) rfl ?_
              exact ⟨by rw [unhide E2]; rfl, below_five (unhide HB) (Nat.le_refl _) _ _ _ _ _⟩
            · cases hn : decide ((t.size : Int) < 9)
              · have E2 := hide (getR_good t k _ _ (unhide HT0) (unhide HN3) (unhide E) (unhide HY) (of_decide_eq_false hn))
                go_wp2
                refine bodyPost_ret (results_row3 rfl _ _ _ _ _ _ _ rfl (five_set (unhide HF) _ _ _ _ _).1 Tryz.underlying29 rfl (by exact infoRef) _ _ rfl rfl) rfl ?_
                exact ⟨by rw [unhide E2]; rfl, below_five (unhide HB) (Nat.le_refl _) _ _ _ _ _⟩
              · have E2 := hide (getR_bad t k _ _ (unhide HT0) (unhide HN3) (unhide E) (Or.inr (of_decide_eq_true hn)))
                go_wp2
                refine bodyPost_ret (results_row3 rfl _ _ _ _ _ _ _ rfl (five_set (unhide HF) _ _ _ _ _).1 Tryz.underlying29 rfl (by exact infoRef) _ _ rfl rfl) rfl ?_
                exact ⟨by rw [unhide E2]; rfl, below_five (unhide HB) (Nat.le_refl _) _ _ _ _ _⟩
          · have hi7 : i ≤ 7 := by omega
            have yb4 := yb3 hi7
            have hn : num8 t (i + 1) = 256 * y + (((t[i + 1]'(by omega)).toNat : Nat) : Int) := by rw [← hy, ← gB_at t (i + 1) (by omega)]; rfl
            have HN := hide hn
            clear hn hy yb3
            have tb := (t[i + 1]'(by omega)).toNat_lt
            go_wp2
            go_roundw
            case rel => exact ⟨i + 1, int_eqv (by omega), int_eqv (by rw [unhide HN]), by omega, hide (by first | rfl | trivial)⟩
            case measure => simp [intOf]; omega
      · have h9' : ¬ (9 : Int) ≤ (t.size : Int) := by omega
        rw [if_neg h9] at E
        go_wp2_with fail
        refine (good3_ref (⟨c, 0, ⟨#[]⟩, false, 0⟩ : Vl) _ (by exact (by decide : noText.size ≤ 1000000))).mono ?_
        rintro e w5 ⟨rfl, b5⟩
        replace HF := hide (five_below (unhide HF) b5 (five_lt (unhide HF)))
        replace HQ := hide (five_below (unhide HQ) b5 (five_lt (unhide HQ)))
        replace HB := hide (below_nx (unhide HB) b5)
        clear c0 d0 f0 g0 c1 d1 f1 g1 c2 d2 f2 g2 c3 d3 f3 g3 c4 d4 f4 g4
        clear b5
        have c0 : w5.cell? ⟨w.heap.size, 0, none⟩ = some (.int .i64 0) := five_at (unhide HF) _ _ rfl
        have d0 : w5.cell? ⟨w.heap.size + 1, 0, none⟩ = some (.int .i64 c) := five_at (unhide HQ) _ _ rfl
        have c1 : w5.cell? ⟨w.heap.size, 1, none⟩ = some (.int .i64 0) := five_at (unhide HF) _ _ rfl
        have d1 : w5.cell? ⟨w.heap.size + 1, 1, none⟩ = some (.int .i64 0) := five_at (unhide HQ) _ _ rfl
        have c2 : w5.cell? ⟨w.heap.size, 2, none⟩ = some (.string ⟨#[]⟩) := five_at (unhide HF) _ _ rfl
        have d2 : w5.cell? ⟨w.heap.size + 1, 2, none⟩ = some (.string ⟨#[]⟩) := five_at (unhide HQ) _ _ rfl
        have c3 : w5.cell? ⟨w.heap.size, 3, none⟩ = some (.bool false) := five_at (unhide HF) _ _ rfl
        have d3 : w5.cell? ⟨w.heap.size + 1, 3, none⟩ = some (.bool false) := five_at (unhide HQ) _ _ rfl
        have c4 : w5.cell? ⟨w.heap.size, 4, none⟩ = some (.int .i64 0) := five_at (unhide HF) _ _ rfl
        have d4 : w5.cell? ⟨w.heap.size + 1, 4, none⟩ = some (.int .i64 0) := five_at (unhide HQ) _ _ rfl
        have f0 := five_f (unhide HF) 0
        have g0 := five_f (unhide HQ) 0
        have f1 := five_f (unhide HF) 1
        have g1 := five_f (unhide HQ) 1
        have f2 := five_f (unhide HF) 2
        have g2 := five_f (unhide HQ) 2
        have f3 := five_f (unhide HF) 3
        have g3 := five_f (unhide HQ) 3
        have f4 := five_f (unhide HF) 4
        have g4 := five_f (unhide HQ) 4
        obtain ⟨y, hy⟩ : ∃ y, vGood (⟨c, 0, ⟨#[]⟩, false, 0⟩ : Vl) = y := ⟨_, rfl⟩
        rw [hy]
        have HY := hide hy
        clear hy
        cases y
        · have E2 := hide (getR_bad t k _ _ (unhide HT0) (unhide HN3) (unhide E) (Or.inl (unhide HY)))
          go_wp2
          refine bodyPost_ret (results_row3 rfl _ _ _ _ _ _ _ rfl (five_set (unhide HF) _ _ _ _ _).1 Tryz.underlying29 rfl (by exact infoRef) _ _ rfl rfl) rfl ?_
          exact ⟨by rw [unhide E2]; rfl, below_five (unhide HB) (Nat.le_refl _) _ _ _ _ _⟩
        · cases hn : decide ((t.size : Int) < 9)
          · exact absurd (of_decide_eq_false hn) (by omega)
          · have E2 := hide (getR_bad t k _ _ (unhide HT0) (unhide HN3) (unhide E) (Or.inr (of_decide_eq_true hn)))
            go_wp2
            refine bodyPost_ret (results_row3 rfl _ _ _ _ _ _ _ rfl (five_set (unhide HF) _ _ _ _ _).1 Tryz.underlying29 rfl (by exact infoRef) _ _ rfl rfl) rfl ?_
            exact ⟨by rw [unhide E2]; rfl, below_five (unhide HB) (Nat.le_refl _) _ _ _ _ _⟩
  · have E2 : Hid (getR t k = (blank0, 0, 4)) := hide (by unfold getR; rw [if_pos (by rw [beq_iff_eq] at h0; omega)])
    go_wp2
    refine bodyPost_ret (results_row3 rfl _ _ _ _ _ _ _ rfl (heap_alloc_new _ _) Tryz.underlying29 rfl (by exact infoRef) _ _ rfl rfl) rfl ?_
    exact ⟨by rw [unhide E2]; rfl, below_al _ _⟩
end Go.Proofs.YteaodfeaidjcnaaGreatDoor

namespace Go.Proofs.YteaodfeaidjcnaaGreatDoor
open Go.RowKit

theorem get_ref (s : ByteArray) (k : Int) (w : World) (hs : s.size ≤ 100000) :
    Calls Tryz.prog 21 #[.string s, .int .i64 k] w fun e w' => GetPost (getV s k) w e w' := by
  by_cases h : k < 0 ∨ (s.size : Int) < k
  · exact get_out s k w h
  · obtain ⟨n, rfl⟩ : ∃ n : Nat, k = n := ⟨k.toNat, by omega⟩
    have e : getV s n = getR (s.extract n s.size) n := by unfold getV; rw [if_neg h]; rfl
    rw [e]
    exact get_in s n w hs (by omega)
end Go.Proofs.YteaodfeaidjcnaaGreatDoor
