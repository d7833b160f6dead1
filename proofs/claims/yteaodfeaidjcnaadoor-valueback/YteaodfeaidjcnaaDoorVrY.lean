/- The contracts of the reference's AsBool, AsNum, of layer 3. -/
import Derived.Test.YteaodfeaidjcnaaDoorVrG
import Derived.Test.YteaodfeaidjcnaaDoorRfP
namespace Go.Proofs.YteaodfeaidjcnaaDoor
open Go.RowKit

def asBoolV (u : Vl) : Bool × Int :=
  if u.kind = 1 then ((u.num != 0), 0) else if u.kind = 2 then (if ((mapB lowC u.text).toList == [116, 114, 117, 101]) = true then (true, 0) else if ((mapB lowC u.text).toList == [102, 97, 108, 115, 101]) = true then (false, 0) else (false, 3))
    else if u.kind = 3 then (u.tr, 0) else if u.kind = 4 then (false, u.fail) else (false, 0)
def asNumV (u : Vl) : Int × Int :=
  if u.kind = 1 then (u.num, 0) else if u.kind = 2 then (if ((parseR (bareV u.text).data.toList).2 != 0) = true then (0, 3) else ((parseR (bareV u.text).data.toList).1, 0))
    else if u.kind = 3 then (if u.tr = true then 10000 else 0, 0) else if u.kind = 4 then (0, u.fail) else (0, 0)
theorem pair_b {k : IntKind} {r : Bool × Int} {a : Bool} {b : Int} (h : r = (a, b)) : Ending.returned (.tuple #[.bool a, .int k b]) = .returned (.tuple #[.bool r.1, .int k r.2]) := by rw [h]
theorem pair_n {k k' : IntKind} {r : Int × Int} {a b : Int} (h : r = (a, b)) : Ending.returned (.tuple #[.int k a, .int k' b]) = .returned (.tuple #[.int k r.1, .int k' r.2]) := by rw [h]
theorem sound_size2 (v : Vl) (h : v.text.size ≤ 1000) : (vSound v).text.size ≤ 1000 := by
  unfold vSound
  split
  · exact h
  · show noText.size ≤ 1000; decide
theorem good_e3 : vGood (vE 3) = true := by decide +kernel
theorem sound_idem (v : Vl) : vSound (vSound v) = vSound v := by
  by_cases h : vGood v = true
  · have e : vSound v = v := by unfold vSound; rw [if_pos h]
    rw [e, e]
  · have e : vSound v = vE 3 := by unfold vSound; rw [if_neg h]
    rw [e]; unfold vSound; rw [if_pos good_e3]
theorem dl_le (l : List UInt8) : (dl l).length ≤ l.length := by unfold dl; exact (List.dropWhile_sublist _).length_le
theorem bare_size (s : ByteArray) : (bareV s).size ≤ s.size := by
  show (dl (dl s.data.toList).reverse).reverse.toArray.size ≤ _
  rw [List.size_toArray, List.length_reverse]
  have h1 := dl_le (dl s.data.toList).reverse
  rw [List.length_reverse] at h1
  have h2 := dl_le s.data.toList
  have h3 : s.data.toList.length = s.size := rfl
  omega

end Go.Proofs.YteaodfeaidjcnaaDoor

namespace Go.Proofs.YteaodfeaidjcnaaDoor
open Go.RowKit

def asTextV (u : Vl) : ByteArray × Int := if u.kind = 4 then (noText, u.fail) else (showV u, 0)
theorem pair_s {k : IntKind} {r : ByteArray × Int} {a : ByteArray} {b : Int} (h : r = (a, b)) : Ending.returned (.tuple #[.string a, .int k b]) = .returned (.tuple #[.string r.1, .int k r.2]) := by rw [h]

/-- Which of two texts comes first, by bytes. -/
def ltL : List UInt8 → List UInt8 → Int
  | [], [] => 0
  | [], _ :: _ => -1
  | _ :: _, [] => 1
  | a :: l, b :: m => if a.toNat < b.toNat then -1 else if b.toNat < a.toNat then 1 else ltL l m
theorem drop_byte (s : ByteArray) (i : Nat) (h : i < s.size) : s.data.toList.drop i = s[i] :: s.data.toList.drop (i + 1) := by
  rw [List.drop_eq_getElem_cons (by exact h)]; rfl
theorem ltL_nil (l : List UInt8) (m : List UInt8) (h : l = [] ∨ m = []) : ltL l m = cmpV (l.length : Int) (m.length : Int) := by
  unfold cmpV
  rcases h with rfl | rfl
  · cases m with
    | nil => rfl
    | cons b m => rw [if_pos (by show ((0 : Nat) : Int) < ((m.length + 1 : Nat) : Int); omega)]; rfl
  · cases l with
    | nil => rfl
    | cons b m => rw [if_neg (by show ¬ ((m.length + 1 : Nat) : Int) < ((0 : Nat) : Int); omega), if_pos (by show ((0 : Nat) : Int) < ((m.length + 1 : Nat) : Int); omega)]; rfl
theorem cmpV_shift (a b : Int) (i : Nat) : cmpV (a - i) (b - i) = cmpV a b := by
  unfold cmpV
  by_cases h : a < b
  · rw [if_pos h, if_pos (by omega)]
  · rw [if_neg h, if_neg (by omega)]
    by_cases h2 : b < a
    · rw [if_pos h2, if_pos (by omega)]
    · rw [if_neg h2, if_neg (by omega)]

set_option maxRecDepth 100000 in
set_option maxHeartbeats 4000000 in
theorem texts_ref (s t : ByteArray) (w : World) (hs : s.size ≤ 1000000) (ht : t.size ≤ 1000000) :
    Calls Tryd.prog 43 #[.string s, .string t] w fun e w' => e = .returned (.int .i64 (ltL s.data.toList t.data.toList)) ∧ Below w.heap.size w w' := by
  obtain ⟨R, hR⟩ : ∃ R, ltL s.data.toList t.data.toList = R := ⟨_, rfl⟩
  rw [hR]
  go_enter Tryd.func43, Tryd.ntmps43
  go_wp2
  go_loopw [5] (fun v wr => ∃ i m : Nat, v = .int .i64 (i : Int) ∧ i ≤ s.size ∧ i ≤ t.size ∧ Hid (ltL (s.data.toList.drop i) (t.data.toList.drop i) = R) ∧ wr = w.drewN m) (fun v _ => s.size - (intOf v).toNat)
  case atStart => exact ⟨0, 0, rfl, by omega, by omega, hide (by rw [List.drop_zero, List.drop_zero]; exact hR), rfl⟩
  case round =>
    clear hR
    obtain ⟨i, m, rfl, h1, h2, HR, rfl⟩ := hrel
    by_cases hi : i < s.size ∧ i < t.size
    · obtain ⟨i1, i2⟩ := hi
      have e1 := drop_byte s i i1
      have e2 := drop_byte t i i2
      obtain ⟨x, hx⟩ : ∃ x, s[i] = x := ⟨_, rfl⟩
      obtain ⟨y, hy⟩ : ∃ y, t[i] = y := ⟨_, rfl⟩
      have hr := unhide HR
      rw [e1, e2, hx, hy] at hr
      unfold ltL at hr
      have HRR := hide hr
      clear hr e1 e2 HR
      by_cases c1 : x.toNat < y.toNat
      · have E : Hid (R = -1) := hide (by rw [← unhide HRR, if_pos c1])
        go_wp2
        go_quiet (fail)
        go_wp2
        go_ret
        exact ⟨by rw [unhide E]; rfl, below_drewN (below_drewN (Below.refl _ _) _) _⟩
      · by_cases c2 : y.toNat < x.toNat
        · have E : Hid (R = 1) := hide (by rw [← unhide HRR, if_neg c1, if_pos c2])
          go_wp2
          go_quiet (fail)
          go_wp2
          go_quiet (fail)
          go_wp2
          go_ret
          exact ⟨by rw [unhide E]; rfl, below_drewN (below_drewN (below_drewN (Below.refl _ _) _) _) _⟩
        · have HN : Hid (ltL (s.data.toList.drop (i + 1)) (t.data.toList.drop (i + 1)) = R) := hide (by rw [← unhide HRR, if_neg c1, if_neg c2])
          go_wp2
          go_quiet (fail)
          go_wp2
          go_quiet (fail)
          go_wp2
          exact ⟨⟨i + 1, _, int_eqv (by omega), by omega, by omega, HN, rfl⟩, by simp [intOf]; omega⟩
    · have E : Hid (R = cmpV (s.size : Int) (t.size : Int)) := hide (by
        rw [← unhide HR, ltL_nil _ _ (by
          rcases Nat.lt_or_ge i s.size with h | h
          · exact Or.inr (List.drop_of_length_le (by show t.size ≤ i; omega))
          · exact Or.inl (List.drop_of_length_le (by exact h))), List.length_drop, List.length_drop]
        have a1 : s.data.toList.length = s.size := rfl
        have a2 : t.data.toList.length = t.size := rfl
        rw [a1, a2, show ((s.size - i : Nat) : Int) = (s.size : Int) - (i : Int) by omega, show ((t.size - i : Nat) : Int) = (t.size : Int) - (i : Int) by omega, cmpV_shift])
      by_cases i1 : i < s.size
      · have i2 : ¬ i < t.size := fun h => hi ⟨i1, h⟩
        clear hi
        have d2 : decide ((i : Int) < (t.size : Int)) = false := decide_eq_false (by omega)
        go_wp2_with fail
        refine (numbers_ref _ _ _).mono ?_
        rintro e w2 ⟨rfl, rfl⟩
        go_wp2
        go_ret
        exact ⟨by rw [unhide E]; rfl, below_drewN (Below.refl _ _) _⟩
      · clear hi
        have d1 : decide ((i : Int) < (s.size : Int)) = false := decide_eq_false (by omega)
        go_wp2_with fail
        refine (numbers_ref _ _ _).mono ?_
        rintro e w2 ⟨rfl, rfl⟩
        go_wp2
        go_ret
        exact ⟨by rw [unhide E]; rfl, below_drewN (Below.refl _ _) _⟩
end Go.Proofs.YteaodfeaidjcnaaDoor

namespace Go.Proofs.YteaodfeaidjcnaaDoor
open Go.RowKit

def bl (k : Int) : Vl := ⟨k, 0, noText, false, 0⟩
/-- How two values of one kind stand. -/
def sameV (u x : Vl) : Int :=
  if u.kind = 1 then cmpV u.num x.num else if u.kind = 2 then ltL (mapB lowC u.text).data.toList (mapB lowC x.text).data.toList else if u.kind = 3 then (if u.tr = x.tr then 0 else if x.tr = true then -1 else 1) else 0
def ordV3 (u x : Vl) : Int × Int :=
  if u.kind = 4 then (0, u.fail) else if x.kind = 4 then (0, x.fail)
    else if u.kind = 0 then (if x.kind = 0 then (0, 0) else (sameV (bl x.kind) x, 0))
    else if x.kind = 0 then (sameV u (bl u.kind), 0)
    else if u.kind = x.kind then (sameV u x, 0) else (cmpV u.kind x.kind, 0)
theorem five_other {w : World} {B : Nat} {t : TypeId} {cs : Array Value} (h : FiveAt w B t cs) (C : Nat) (hC : B ≠ C) (x0 x1 x2 x3 x4 : Value) :
    FiveAt (((((w.setCell ⟨C, 0, none⟩ x0).setCell ⟨C, 1, none⟩ x1).setCell ⟨C, 2, none⟩ x2).setCell ⟨C, 3, none⟩ x3).setCell ⟨C, 4, none⟩ x4) B t cs := by
  refine ⟨?_, h.2⟩
  rw [heap_setCell_other _ _ _ _ hC, heap_setCell_other _ _ _ _ hC, heap_setCell_other _ _ _ _ hC, heap_setCell_other _ _ _ _ hC, heap_setCell_other _ _ _ _ hC]
  exact h.1

set_option maxRecDepth 100000 in
set_option maxHeartbeats 8000000 in
theorem order_err (a b : Vl) (w : World) (ha : a.text.size ≤ 1000) (hb : b.text.size ≤ 1000) (h4 : (vSound a).kind = 4 ∨ (vSound b).kind = 4) :
    Calls Tryd.prog 27 #[.agg a.cells, .agg b.cells] w fun e w' => e = .returned (.tuple #[.int .i64 (ordV3 (vSound a) (vSound b)).1, .int .i64 (ordV3 (vSound a) (vSound b)).2]) ∧ Below w.heap.size w w' := by
  obtain ⟨u, hu⟩ : ∃ u, vSound a = u := ⟨_, rfl⟩
  obtain ⟨x, hx⟩ : ∃ x, vSound b = x := ⟨_, rfl⟩
  have HS1 := hide (fun w => sound_ref a w (by omega))
  have HS2 := hide (fun w => sound_ref b w (by omega))
  rw [hu] at HS1 h4 ⊢
  rw [hx] at HS2 h4 ⊢
  clear hu hx
  unfold Vl.cells at HS1 HS2 ⊢
  cases k4 : (u.kind == 4)
  · have n4 : u.kind ≠ 4 := by rw [beq_eq_false_iff_ne] at k4; exact k4
    have j4 : x.kind = 4 := by rcases h4 with h | h; exact absurd h n4; exact h
    have E : Hid (ordV3 u x = (0, x.fail)) := hide (by unfold ordV3; rw [if_neg n4, if_pos j4])
    have k5 : (x.kind == 4) = true := by rw [beq_iff_eq]; exact j4
    clear n4 j4 h4
    go_enter Tryd.func27, Tryd.ntmps27
    go_wp2_with fail
    refine (unhide HS1 _).mono ?_
    rintro e w1 ⟨rfl, b1⟩
    have p1 := five_below (five_old w 29 (.int .i64 a.kind) (.int .i64 a.num) (.string a.text) (.bool a.tr) (.int .i64 a.fail) (.cells #[.int .i64 b.kind, .int .i64 b.num, .string b.text, .bool b.tr, .int .i64 b.fail] 29)) b1 (by simp; omega)
    have p2 := five_below (five_new2 w (.cells #[.int .i64 a.kind, .int .i64 a.num, .string a.text, .bool a.tr, .int .i64 a.fail] 29) 29 (.int .i64 b.kind) (.int .i64 b.num) (.string b.text) (.bool b.tr) (.int .i64 b.fail)) b1 (by simp)
    have B1 : Below w.heap.size w w1 := (below_al2 w (.cells #[.int .i64 a.kind, .int .i64 a.num, .string a.text, .bool a.tr, .int .i64 a.fail] 29) (.cells #[.int .i64 b.kind, .int .i64 b.num, .string b.text, .bool b.tr, .int .i64 b.fail] 29)).trans (b1.mono (by simp; omega))
    obtain ⟨x0, c0⟩ := five_c p1 0 (by omega)
    obtain ⟨x1, c1⟩ := five_c p1 1 (by omega)
    obtain ⟨x2, c2⟩ := five_c p1 2 (by omega)
    obtain ⟨x3, c3⟩ := five_c p1 3 (by omega)
    obtain ⟨x4, c4⟩ := five_c p1 4 (by omega)
    have f0 := five_f p1 0
    have f1 := five_f p1 1
    have f2 := five_f p1 2
    have f3 := five_f p1 3
    have f4 := five_f p1 4
    have d0 : w1.cell? ⟨w.heap.size + 1, 0, none⟩ = some (.int .i64 b.kind) := by simp [World.cell?, p2.1]
    have d1 : w1.cell? ⟨w.heap.size + 1, 1, none⟩ = some (.int .i64 b.num) := by simp [World.cell?, p2.1]
    have d2 : w1.cell? ⟨w.heap.size + 1, 2, none⟩ = some (.string b.text) := by simp [World.cell?, p2.1]
    have d3 : w1.cell? ⟨w.heap.size + 1, 3, none⟩ = some (.bool b.tr) := by simp [World.cell?, p2.1]
    have d4 : w1.cell? ⟨w.heap.size + 1, 4, none⟩ = some (.int .i64 b.fail) := by simp [World.cell?, p2.1]
    have P1 := hide (five_set p1 (.int .i64 u.kind) (.int .i64 u.num) (.string u.text) (.bool u.tr) (.int .i64 u.fail))
    have P2 := hide p2
    have HB1 := hide (below_five B1 (Nat.le_refl _) (.int .i64 u.kind) (.int .i64 u.num) (.string u.text) (.bool u.tr) (.int .i64 u.fail))
    clear p1 p2 b1 B1
    go_wp2_with fail
    refine (unhide HS2 _).mono ?_
    rintro e w2 ⟨rfl, b2⟩
    have q1 := five_below (unhide P1) b2 (five_lt (unhide P1))
    have q2 := five_below (five_other (unhide P2) w.heap.size (by omega) (.int .i64 u.kind) (.int .i64 u.num) (.string u.text) (.bool u.tr) (.int .i64 u.fail)) b2 (by have := five_lt (five_other (unhide P2) w.heap.size (by omega) (.int .i64 u.kind) (.int .i64 u.num) (.string u.text) (.bool u.tr) (.int .i64 u.fail)); exact this)
    have HB2 := hide (below_five (below_nx (unhide HB1) b2) (B := w.heap.size + 1) (by omega) (.int .i64 x.kind) (.int .i64 x.num) (.string x.text) (.bool x.tr) (.int .i64 x.fail))
    clear c0 f0 d0 c1 f1 d1 c2 f2 d2 c3 f3 d3 c4 f4 d4 b2 P1 P2 HB1
    clear x0 x1 x2 x3 x4
    have c0 : w2.cell? ⟨w.heap.size, 0, none⟩ = some (.int .i64 u.kind) := by simp [World.cell?, q1.1]
    have c1 : w2.cell? ⟨w.heap.size, 1, none⟩ = some (.int .i64 u.num) := by simp [World.cell?, q1.1]
    have c2 : w2.cell? ⟨w.heap.size, 2, none⟩ = some (.string u.text) := by simp [World.cell?, q1.1]
    have c3 : w2.cell? ⟨w.heap.size, 3, none⟩ = some (.bool u.tr) := by simp [World.cell?, q1.1]
    have c4 : w2.cell? ⟨w.heap.size, 4, none⟩ = some (.int .i64 u.fail) := by simp [World.cell?, q1.1]
    have f0 := five_f q1 0
    have f1 := five_f q1 1
    have f2 := five_f q1 2
    have f3 := five_f q1 3
    have f4 := five_f q1 4
    obtain ⟨x0, d0⟩ := five_c q2 0 (by omega)
    obtain ⟨x1, d1⟩ := five_c q2 1 (by omega)
    obtain ⟨x2, d2⟩ := five_c q2 2 (by omega)
    obtain ⟨x3, d3⟩ := five_c q2 3 (by omega)
    obtain ⟨x4, d4⟩ := five_c q2 4 (by omega)
    have g0 := five_f q2 0
    have g1 := five_f q2 1
    have g2 := five_f q2 2
    have g3 := five_f q2 3
    have g4 := five_f q2 4
    clear q1 q2
    go_wp2
    go_region
    go_wp2
    go_ret2
    exact ⟨pair_n (unhide E), (unhide HB2).drew⟩
  · have E : Hid (ordV3 u x = (0, u.fail)) := hide (by unfold ordV3; rw [if_pos (by rw [beq_iff_eq] at k4; exact k4)])
    clear h4
    go_enter Tryd.func27, Tryd.ntmps27
    go_wp2_with fail
    refine (unhide HS1 _).mono ?_
    rintro e w1 ⟨rfl, b1⟩
    have p1 := five_below (five_old w 29 (.int .i64 a.kind) (.int .i64 a.num) (.string a.text) (.bool a.tr) (.int .i64 a.fail) (.cells #[.int .i64 b.kind, .int .i64 b.num, .string b.text, .bool b.tr, .int .i64 b.fail] 29)) b1 (by simp; omega)
    have p2 := five_below (five_new2 w (.cells #[.int .i64 a.kind, .int .i64 a.num, .string a.text, .bool a.tr, .int .i64 a.fail] 29) 29 (.int .i64 b.kind) (.int .i64 b.num) (.string b.text) (.bool b.tr) (.int .i64 b.fail)) b1 (by simp)
    have B1 : Below w.heap.size w w1 := (below_al2 w (.cells #[.int .i64 a.kind, .int .i64 a.num, .string a.text, .bool a.tr, .int .i64 a.fail] 29) (.cells #[.int .i64 b.kind, .int .i64 b.num, .string b.text, .bool b.tr, .int .i64 b.fail] 29)).trans (b1.mono (by simp; omega))
    obtain ⟨x0, c0⟩ := five_c p1 0 (by omega)
    obtain ⟨x1, c1⟩ := five_c p1 1 (by omega)
    obtain ⟨x2, c2⟩ := five_c p1 2 (by omega)
    obtain ⟨x3, c3⟩ := five_c p1 3 (by omega)
    obtain ⟨x4, c4⟩ := five_c p1 4 (by omega)
    have f0 := five_f p1 0
    have f1 := five_f p1 1
    have f2 := five_f p1 2
    have f3 := five_f p1 3
    have f4 := five_f p1 4
    have d0 : w1.cell? ⟨w.heap.size + 1, 0, none⟩ = some (.int .i64 b.kind) := by simp [World.cell?, p2.1]
    have d1 : w1.cell? ⟨w.heap.size + 1, 1, none⟩ = some (.int .i64 b.num) := by simp [World.cell?, p2.1]
    have d2 : w1.cell? ⟨w.heap.size + 1, 2, none⟩ = some (.string b.text) := by simp [World.cell?, p2.1]
    have d3 : w1.cell? ⟨w.heap.size + 1, 3, none⟩ = some (.bool b.tr) := by simp [World.cell?, p2.1]
    have d4 : w1.cell? ⟨w.heap.size + 1, 4, none⟩ = some (.int .i64 b.fail) := by simp [World.cell?, p2.1]
    have P1 := hide (five_set p1 (.int .i64 u.kind) (.int .i64 u.num) (.string u.text) (.bool u.tr) (.int .i64 u.fail))
    have P2 := hide p2
    have HB1 := hide (below_five B1 (Nat.le_refl _) (.int .i64 u.kind) (.int .i64 u.num) (.string u.text) (.bool u.tr) (.int .i64 u.fail))
    clear p1 p2 b1 B1
    go_wp2_with fail
    refine (unhide HS2 _).mono ?_
    rintro e w2 ⟨rfl, b2⟩
    have q1 := five_below (unhide P1) b2 (five_lt (unhide P1))
    have q2 := five_below (five_other (unhide P2) w.heap.size (by omega) (.int .i64 u.kind) (.int .i64 u.num) (.string u.text) (.bool u.tr) (.int .i64 u.fail)) b2 (by have := five_lt (five_other (unhide P2) w.heap.size (by omega) (.int .i64 u.kind) (.int .i64 u.num) (.string u.text) (.bool u.tr) (.int .i64 u.fail)); exact this)
    have HB2 := hide (below_five (below_nx (unhide HB1) b2) (B := w.heap.size + 1) (by omega) (.int .i64 x.kind) (.int .i64 x.num) (.string x.text) (.bool x.tr) (.int .i64 x.fail))
    clear c0 f0 d0 c1 f1 d1 c2 f2 d2 c3 f3 d3 c4 f4 d4 b2 P1 P2 HB1
    clear x0 x1 x2 x3 x4
    have c0 : w2.cell? ⟨w.heap.size, 0, none⟩ = some (.int .i64 u.kind) := by simp [World.cell?, q1.1]
    have c1 : w2.cell? ⟨w.heap.size, 1, none⟩ = some (.int .i64 u.num) := by simp [World.cell?, q1.1]
    have c2 : w2.cell? ⟨w.heap.size, 2, none⟩ = some (.string u.text) := by simp [World.cell?, q1.1]
    have c3 : w2.cell? ⟨w.heap.size, 3, none⟩ = some (.bool u.tr) := by simp [World.cell?, q1.1]
    have c4 : w2.cell? ⟨w.heap.size, 4, none⟩ = some (.int .i64 u.fail) := by simp [World.cell?, q1.1]
    have f0 := five_f q1 0
    have f1 := five_f q1 1
    have f2 := five_f q1 2
    have f3 := five_f q1 3
    have f4 := five_f q1 4
    obtain ⟨x0, d0⟩ := five_c q2 0 (by omega)
    obtain ⟨x1, d1⟩ := five_c q2 1 (by omega)
    obtain ⟨x2, d2⟩ := five_c q2 2 (by omega)
    obtain ⟨x3, d3⟩ := five_c q2 3 (by omega)
    obtain ⟨x4, d4⟩ := five_c q2 4 (by omega)
    have g0 := five_f q2 0
    have g1 := five_f q2 1
    have g2 := five_f q2 2
    have g3 := five_f q2 3
    have g4 := five_f q2 4
    clear q1 q2
    go_wp2
    go_region
    go_wp2
    go_ret2
    exact ⟨pair_n (unhide E), (unhide HB2).drew⟩
end Go.Proofs.YteaodfeaidjcnaaDoor
