/- Structs of layer 4 compared; the contracts of Name, of both; of span. -/
import Derived.Laws.StructEq
import Derived.Test.YtloamahbghjjgaaGreatDoorAdW
namespace Go.Proofs.YtloamahbghjjgaaGreatDoor
open Go.RowKit

def Fl.cells (f : Fl) : Array Value := #[.string f.book, .string f.sheet, .int .i64 f.a.col, .int .i64 f.a.row, .bool f.a.fc, .bool f.a.fr, .int .i64 f.b.col, .int .i64 f.b.row, .bool f.b.fc, .bool f.b.fr, .bool f.wide]
def zeroB (r : Rf) : Bool := r.col == 0 && r.row == 0 && !r.fc && !r.fr
theorem cell_eqIn (d : Nat) (a b c e : Int) (w : World) : (Op.equalIn (d + 2) 48 (.agg #[.int .i64 a, .int .i64 b]) (.agg #[.int .i64 c, .int .i64 e])).run Tryz.prog w = .ok (a == c && b == e) w := by
  have hS : Tryz.prog.underlying 48 = some (.struct (Tryz.prog.fieldsOf 48)) := by kernel_rfl
  have hp : Tryz.prog.stoodInHeld 48 = false := by kernel_rfl
  have u1 := Tryz.underlying3
  have a1 := Tryz.isAgg3
  have z1 := Tryz.sizeOf3
  rw [show d + 2 = (d + 1) + 1 from rfl, run_equalIn_agg w (d + 1) 48 _ _ hS hp]
  simp only [Program.fieldsOf, Tryz.underlying48]
  clear hS
  go_simp
  by_cases h1 : a = c
  · by_cases h2 : b = e
    · simp [h1, h2]
    · simp [h1, h2]
  · simp [h1]
theorem rf_eqIn (d : Nat) (c r : Int) (f g : Bool) (c' r' : Int) (f' g' : Bool) (w : World) :
    (Op.equalIn (d + 3) 50 (.agg #[.int .i64 c, .int .i64 r, .bool f, .bool g]) (.agg #[.int .i64 c', .int .i64 r', .bool f', .bool g'])).run Tryz.prog w = .ok ((c == c' && r == r') && ((f == f') && (g == g'))) w := by
  have hS : Tryz.prog.underlying 50 = some (.struct (Tryz.prog.fieldsOf 50)) := by kernel_rfl
  have hp : Tryz.prog.stoodInHeld 50 = false := by kernel_rfl
  have hc := fun a b c e w => cell_eqIn d a b c e w
  have u2 := Tryz.underlying4
  have a2 := Tryz.isAgg4
  have a3 := Tryz.isAgg48
  have z2 := Tryz.sizeOf4
  have z3 := Tryz.sizeOf48
  rw [show d + 3 = (d + 2) + 1 from rfl, run_equalIn_agg w (d + 2) 50 _ _ hS hp]
  simp only [Program.fieldsOf, Tryz.underlying50]
  clear hS
  go_simp
  by_cases h1 : c = c'
  · by_cases h2 : r = r'
    · by_cases h3 : f = f'
      · by_cases h4 : g = g'
        · simp [h1, h2, h3, h4]
        · simp [h1, h2, h3, h4]
      · simp [h1, h2, h3]
    · simp [h1, h2]
  · simp [h1]
theorem rf_ne0 (c r : Int) (f g : Bool) (w : World) :
    (binOp .neq 50 (.agg #[.int .i64 c, .int .i64 r, .bool f, .bool g]) (.agg #[.int .i64 0, .int .i64 0, .bool false, .bool false])).run Tryz.prog w = .ok (.bool (!zeroB ⟨c, r, f, g⟩)) w := by
  rw [run_neq_struct, show (10000 : Nat) = 9997 + 3 from rfl, rf_eqIn]
  show Result.ok _ w = _
  unfold zeroB
  cases f <;> cases g <;> simp
theorem rf_eq_self (c r : Int) (f g : Bool) (w : World) :
    (binOp .eql 50 (.agg #[.int .i64 c, .int .i64 r, .bool f, .bool g]) (.agg #[.int .i64 c, .int .i64 r, .bool f, .bool g])).run Tryz.prog w = .ok (.bool true) w := by
  rw [run_eql_struct, show (10000 : Nat) = 9997 + 3 from rfl, rf_eqIn]
  simp [Result.andThen]
theorem cell_ne_self (a b : Int) (w : World) : (binOp .neq 48 (.agg #[.int .i64 a, .int .i64 b]) (.agg #[.int .i64 a, .int .i64 b])).run Tryz.prog w = .ok (.bool false) w := by
  rw [run_neq_struct, show (10000 : Nat) = 9998 + 2 from rfl, cell_eqIn]
  simp [Result.andThen]
theorem area_ne_self (a b c d : Int) (w : World) : (binOp .neq 154 (.agg #[.int .i64 a, .int .i64 b, .int .i64 c, .int .i64 d]) (.agg #[.int .i64 a, .int .i64 b, .int .i64 c, .int .i64 d])).run Tryz.prog w = .ok (.bool false) w := by
  have hS : Tryz.prog.underlying 154 = some (.struct (Tryz.prog.fieldsOf 154)) := by kernel_rfl
  have hp : Tryz.prog.stoodInHeld 154 = false := by kernel_rfl
  have hc : ∀ a b c e w, (Op.equalIn 9999 48 (.agg #[.int .i64 a, .int .i64 b]) (.agg #[.int .i64 c, .int .i64 e])).run Tryz.prog w = .ok (a == c && b == e) w := fun a b c e w => cell_eqIn 9997 a b c e w
  have a3 := Tryz.isAgg48
  have z3 := Tryz.sizeOf48
  rw [run_neq_struct, show (10000 : Nat) = 9999 + 1 from rfl, run_equalIn_agg w 9999 154 _ _ hS hp]
  simp only [Program.fieldsOf, Tryz.underlying154]
  clear hS
  go_simp
theorem full_eq_self (bk sh : ByteArray) (c1 r1 : Int) (f1 g1 : Bool) (c2 r2 : Int) (f2 g2 wd : Bool) (w : World) : (binOp .eql 52 (.agg #[.string bk, .string sh, .int .i64 c1, .int .i64 r1, .bool f1, .bool g1, .int .i64 c2, .int .i64 r2, .bool f2, .bool g2, .bool wd]) (.agg #[.string bk, .string sh, .int .i64 c1, .int .i64 r1, .bool f1, .bool g1, .int .i64 c2, .int .i64 r2, .bool f2, .bool g2, .bool wd])).run Tryz.prog w = .ok (.bool true) w := by
  have hS : Tryz.prog.underlying 52 = some (.struct (Tryz.prog.fieldsOf 52)) := by kernel_rfl
  have hp : Tryz.prog.stoodInHeld 52 = false := by kernel_rfl
  have hc : ∀ c r f g c' r' f' g' w, (Op.equalIn 9999 50 (.agg #[.int .i64 c, .int .i64 r, .bool f, .bool g]) (.agg #[.int .i64 c', .int .i64 r', .bool f', .bool g'])).run Tryz.prog w = .ok ((c == c' && r == r') && ((f == f') && (g == g'))) w := fun c r f g c' r' f' g' w => rf_eqIn 9996 c r f g c' r' f' g' w
  have u2 := Tryz.underlying4
  have a2 := Tryz.isAgg4
  have z2 := Tryz.sizeOf4
  have u4 := Tryz.underlying9
  have a4 := Tryz.isAgg9
  have z4 := Tryz.sizeOf9
  have a3 := Tryz.isAgg50
  have z3 := Tryz.sizeOf50
  rw [run_eql_struct, show (10000 : Nat) = 9999 + 1 from rfl, run_equalIn_agg w 9999 52 _ _ hS hp]
  simp only [Program.fieldsOf, Tryz.underlying52]
  clear hS
  go_simp

set_option maxRecDepth 100000 in
set_option maxHeartbeats 4000000 in
theorem name_val (s : ByteArray) (w : World) :
    Calls Tryz.prog 110 #[.string s] w fun e w' => e = .returned (.bool (nameG s.data.toList)) ∧ Below w.heap.size w w' := by
  obtain ⟨l, hl⟩ : ∃ l, s.data.toList = l := ⟨_, rfl⟩
  rw [hl]
  have hsz : s.size = l.length := by rw [← hl]; rfl
  by_cases h0 : s.data.toList = []
  · have e1 := toL_nil s h0
    have E : nameG l = false := by rw [hl] at h0; rw [h0]; rfl
    rw [E]
    clear E
    clear h0 hl hsz
    go_enter Tryz.func110, Tryz.ntmps110
    go_wp2
    go_ret
    exact ⟨rfl, Below.refl _ _⟩
  · have e1 := toL_cons s h0
    have h1 : 1 ≤ s.size := by rcases Nat.eq_zero_or_pos s.size with h | h; exact absurd (List.eq_nil_of_length_eq_zero h) h0; exact h
    by_cases h16 : s.size ≤ 16
    · have h16i : (s.size : Int) ≤ 16 := by omega
      have h0s : 0 < s.size := by omega
      have h0i : (0 : Int) < (s.size : Int) := by omega
      have hh : l.headD 0 = s[0] := by rw [← hl]; exact head_at s h0s
      have HD := hide (fun w => digit_val s[0] w)
      cases hd : isDg s[0]
      · rw [hd] at HD
        have HL := hide (fun w => lead_name s w (by unfold maxLen; omega))
        rw [hl] at HL
        have E : nameG l = l.all inNm := by unfold nameG; rw [hh, hd, decide_eq_true (show 1 ≤ l.length by omega), decide_eq_true (show l.length ≤ 16 by omega)]; rfl
        rw [E]
        clear E hd hh
        cases ha : l.all inNm
        · obtain ⟨Q, hQ⟩ : ∃ Q : ByteArray, Q = ⟨(l.dropWhile inNm).toArray⟩ := ⟨_, rfl⟩
          have e2 := toL_cons Q (by rw [hQ]; show l.dropWhile inNm ≠ []; intro e; rw [(tw_all _ _ e).2] at ha; cases ha)
          rw [← hQ] at HL
          clear hQ ha hl hsz h0
          go_enter Tryz.func110, Tryz.ntmps110
          go_wp2_with fail
          refine (unhide HD _).mono ?_
          rintro e w1 ⟨rfl, rfl⟩
          go_wp2_with fail
          refine (unhide HL _).mono ?_
          rintro e w1 ⟨rfl, b1⟩
          have HB := hide b1
          clear b1
          go_wp2
          go_ret
          exact ⟨rfl, unhide HB⟩
        · obtain ⟨Q, hQ⟩ : ∃ Q : ByteArray, Q = ⟨(l.dropWhile inNm).toArray⟩ := ⟨_, rfl⟩
          have e2 := toL_nil Q (by rw [hQ]; exact dw_not _ _ ha)
          rw [← hQ] at HL
          clear hQ ha hl hsz h0
          go_enter Tryz.func110, Tryz.ntmps110
          go_wp2_with fail
          refine (unhide HD _).mono ?_
          rintro e w1 ⟨rfl, rfl⟩
          go_wp2_with fail
          refine (unhide HL _).mono ?_
          rintro e w1 ⟨rfl, b1⟩
          have HB := hide b1
          clear b1
          go_wp2
          go_ret
          exact ⟨rfl, unhide HB⟩
      · rw [hd] at HD
        have E : nameG l = false := by unfold nameG; rw [hh, hd]; simp
        rw [E]
        clear E
        clear hd hh hl hsz h0
        go_enter Tryz.func110, Tryz.ntmps110
        go_wp2_with fail
        refine (unhide HD _).mono ?_
        rintro e w1 ⟨rfl, rfl⟩
        go_wp2
        go_ret
        exact ⟨rfl, Below.refl _ _⟩
    · have h16i : 16 < (s.size : Int) := by omega
      have E : nameG l = false := by unfold nameG; rw [decide_eq_false (show ¬ l.length ≤ 16 by omega)]; simp
      rw [E]
      clear E
      clear hl hsz h0 h16
      go_enter Tryz.func110, Tryz.ntmps110
      go_wp2
      go_ret
      exact ⟨rfl, Below.refl _ _⟩

set_option maxRecDepth 100000 in
set_option maxHeartbeats 4000000 in
theorem name_ref (s : ByteArray) (w : World) :
    Calls Tryz.prog 81 #[.string s] w fun e w' => e = .returned (.bool (nameG s.data.toList)) ∧ w' = w := by
  by_cases h1 : s.size < 1
  · have h1i : (s.size : Int) < 1 := by omega
    have E : nameG s.data.toList = false := by unfold nameG; rw [decide_eq_false (show ¬ 1 ≤ s.data.toList.length by show ¬ 1 ≤ s.size; omega)]; rfl
    rw [E]
    clear E
    go_enter Tryz.func81, Tryz.ntmps81
    go_wp2
    go_ret
    exact ⟨rfl, rfl⟩
  · have h1i : 1 ≤ (s.size : Int) := by omega
    by_cases h16 : s.size ≤ 16
    · have h16i : (s.size : Int) ≤ 16 := by omega
      go_enter Tryz.func81, Tryz.ntmps81
      go_wp2
      go_loop [3] (fun i => ∃ k : Nat, k ≤ s.size ∧ i = .int .i64 k ∧ Hid ((s.data.toList.take k).all inNm = true ∧ (1 ≤ k → isDg (s.data.toList.headD 0) = false))) (fun i => s.size - (intOf i).toNat)
      case atStart => exact ⟨0, Nat.zero_le _, rfl, hide ⟨rfl, fun h => by omega⟩⟩
      case round =>
        obtain ⟨k, hk, rfl, HT⟩ := hrel
        by_cases hlt : k < s.size
        · have HL := hide (fun w => letter_ref s[k] w)
          have HD := hide (fun w => digit_ref s[k] w)
          have h95 : Hid (((s[k].toNat : Int) != 95) = !(s[k] == 95)) := hide (by
            rw [bne, Bool.not_inj_iff, Bool.eq_iff_iff, beq_iff_eq, beq_iff_eq]
            constructor
            · intro h; exact UInt8.toNat_inj.1 (show s[k].toNat = 95 by omega)
            · intro h; rw [h]; rfl)
          have hnd : isLet s[k] = true ∨ (s[k] == 95) = true → isDg s[k] = false := by
            intro h
            rcases h with h | h
            · cases hd : isDg s[k]
              · rfl
              · rw [dg_let _ hd] at h; cases h
            · rw [beq_iff_eq] at h; rw [h]; rfl
          cases hl : isLet s[k]
          · rw [hl] at HL
            cases h9 : (s[k] == 95)
            · rw [h9] at h95
              cases hd : isDg s[k]
              · rw [hd] at HD
                have HF : Hid (nameG s.data.toList = false) := hide (by unfold nameG; rw [show s.data.toList.all inNm = false from List.all_eq_false.2 ⟨s[k], by show s.data.toList[k]'hlt ∈ _; exact List.getElem_mem _, by simp [inNm, hl, hd, h9]⟩]; simp)
                clear hnd hl h9 hd
                go_wp2_with fail
                refine (unhide HL _).mono ?_
                rintro e w1 ⟨rfl, rfl⟩
                go_wp2_with fail
                refine (unhide HD _).mono ?_
                rintro e w1 ⟨rfl, rfl⟩
                have h95p : ¬ (s[k].toNat : Int) = 95 := by have := unhide h95; simpa using this
                have h95b := unhide h95
                clear h95
                go_wp2
                go_ret
                exact ⟨by rw [unhide HF]; rfl, rfl⟩
              · rw [hd] at HD
                by_cases hk0 : k = 0
                · subst hk0
                  have HF : Hid (nameG s.data.toList = false) := hide (by unfold nameG; rw [head_at s hlt, hd]; simp)
                  clear hnd hl h9 hd
                  go_wp2_with fail
                  refine (unhide HL _).mono ?_
                  rintro e w1 ⟨rfl, rfl⟩
                  go_wp2_with fail
                  refine (unhide HD _).mono ?_
                  rintro e w1 ⟨rfl, rfl⟩
                  have h95p : ¬ (s[0].toNat : Int) = 95 := by have := unhide h95; simpa using this
                  have h95b := unhide h95
                  clear h95
                  go_wp2
                  go_ret
                  exact ⟨by rw [unhide HF]; rfl, rfl⟩
                · have HN : Hid ((s.data.toList.take (k + 1)).all inNm = true ∧ (1 ≤ k + 1 → isDg (s.data.toList.headD 0) = false)) := hide ⟨by rw [take_snoc4 s k hlt, List.all_append, (unhide HT).1, List.all_cons]; simp [inNm, hd], fun _ => by
                    exact (unhide HT).2 (by omega)⟩
                  have hk0b : ((k : Int) == 0) = false := by rw [beq_eq_false_iff_ne]; omega
                  clear hnd hl h9 hd hk0
                  go_wp2_with fail
                  refine (unhide HL _).mono ?_
                  rintro e w1 ⟨rfl, rfl⟩
                  go_wp2_with fail
                  refine (unhide HD _).mono ?_
                  rintro e w1 ⟨rfl, rfl⟩
                  have h95p : ¬ (s[k].toNat : Int) = 95 := by have := unhide h95; simpa using this
                  have h95b := unhide h95
                  clear h95
                  go_wp2
                  go_round
                  case rel => exact ⟨k + 1, by omega, by go_num, HN⟩
                  case measure => simp [intOf]; omega
            · rw [h9] at h95
              have HN : Hid ((s.data.toList.take (k + 1)).all inNm = true ∧ (1 ≤ k + 1 → isDg (s.data.toList.headD 0) = false)) := hide ⟨by rw [take_snoc4 s k hlt, List.all_append, (unhide HT).1, List.all_cons]; simp [inNm, h9], fun _ => by
                by_cases hk0 : k = 0
                · subst hk0
                  rw [head_at s hlt]
                  exact hnd (Or.inr h9)
                · exact (unhide HT).2 (by omega)⟩
              clear hnd hl h9
              generalize isDg s[k] = q at HD
              go_wp2_with fail
              refine (unhide HL _).mono ?_
              rintro e w1 ⟨rfl, rfl⟩
              go_wp2_with fail
              refine (unhide HD _).mono ?_
              rintro e w1 ⟨rfl, rfl⟩
              have h95p : (s[k].toNat : Int) = 95 := by have := unhide h95; simpa using this
              have h95b := unhide h95
              clear h95
              go_wp2
              go_round
              case rel => exact ⟨k + 1, by omega, by go_num, HN⟩
              case measure => simp [intOf]; omega
          · rw [hl] at HL
            have HN : Hid ((s.data.toList.take (k + 1)).all inNm = true ∧ (1 ≤ k + 1 → isDg (s.data.toList.headD 0) = false)) := hide ⟨by rw [take_snoc4 s k hlt, List.all_append, (unhide HT).1, List.all_cons]; simp [inNm, hl], fun _ => by
              by_cases hk0 : k = 0
              · subst hk0
                rw [head_at s hlt]
                exact hnd (Or.inl hl)
              · exact (unhide HT).2 (by omega)⟩
            clear hnd hl h95
            generalize isDg s[k] = q at HD
            go_wp2_with fail
            refine (unhide HL _).mono ?_
            rintro e w1 ⟨rfl, rfl⟩
            go_wp2_with fail
            refine (unhide HD _).mono ?_
            rintro e w1 ⟨rfl, rfl⟩
            go_wp2
            go_round
            case rel => exact ⟨k + 1, by omega, by go_num, HN⟩
            case measure => simp [intOf]; omega
        · have HF : Hid (nameG s.data.toList = true) := hide (by
            have e : s.data.toList.take k = s.data.toList := List.take_of_length_le (by show s.size ≤ k; omega)
            have h := unhide HT
            rw [e] at h
            unfold nameG
            rw [h.1, h.2 (by omega), decide_eq_true (show 1 ≤ s.data.toList.length by show 1 ≤ s.size; omega), decide_eq_true (show s.data.toList.length ≤ 16 by show s.size ≤ 16; omega)]
            rfl)
          go_wp2
          go_ret
          exact ⟨by rw [unhide HF]; rfl, rfl⟩
    · have h16i : 16 < (s.size : Int) := by omega
      have E : nameG s.data.toList = false := by unfold nameG; rw [decide_eq_false (show ¬ s.data.toList.length ≤ 16 by show ¬ s.size ≤ 16; omega)]; simp
      rw [E]
      clear E h16
      go_enter Tryz.func81, Tryz.ntmps81
      go_wp2
      go_ret
      exact ⟨rfl, rfl⟩
end Go.Proofs.YtloamahbghjjgaaGreatDoor

namespace Go.Proofs.YtloamahbghjjgaaGreatDoor
open Go.RowKit

theorem empty_l (s : ByteArray) : s.data.toList.isEmpty = (s.toList == []) := by
  rw [ByteArray.toList_eq]; cases s.data.toList <;> rfl
theorem area_one (a b : Int) : areaG a b a b = cellG a b := by
  unfold areaG areaC
  cases h : cellG a b
  · rfl
  · rw [decide_eq_true (Int.le_refl a), decide_eq_true (Int.le_refl b), show a - a + 1 = 1 by omega, show b - b + 1 = 1 by omega]; rfl
theorem goodF_mk (bk sh : ByteArray) (a b : Rf) (wd : Bool) : goodF ⟨bk, sh, a, b, wd⟩ = (((sh.toList == []) || nameG sh.data.toList) && ((bk.toList == []) || (!(sh.toList == []) && nameG bk.data.toList)) && (if wd = true then areaG a.col a.row b.col b.row else zeroB b && cellG a.col a.row)) := by
  unfold goodF
  rw [empty_l, empty_l]
  rfl

set_option maxRecDepth 100000 in
set_option maxHeartbeats 2000000 in
theorem span_wide (bk sh : ByteArray) (c1 r1 : Int) (f1 g1 : Bool) (c2 r2 : Int) (f2 g2 : Bool) (w : World) :
    Calls Tryz.prog 111 #[.agg #[.string bk, .string sh, .int .i64 c1, .int .i64 r1, .bool f1, .bool g1, .int .i64 c2, .int .i64 r2, .bool f2, .bool g2, .bool true]] w fun e w' => e = .returned (.agg #[.int .i64 c1, .int .i64 r1, .int .i64 c2, .int .i64 r2]) ∧ Below w.heap.size w w' := by
  go_enter Tryz.func111, Tryz.ntmps111
  go_wp2
  refine bodyPost_ret (results_c1 rfl _ _ _ _ _ _ rfl (cells_new2 _ _ _ _) Tryz.underlying154 rfl (by exact infoA)) rfl ?_
  exact ⟨rfl, below_al2 _ _ _⟩
set_option maxRecDepth 100000 in
set_option maxHeartbeats 2000000 in
theorem span_one (bk sh : ByteArray) (c1 r1 : Int) (f1 g1 : Bool) (c2 r2 : Int) (f2 g2 : Bool) (w : World) :
    Calls Tryz.prog 111 #[.agg #[.string bk, .string sh, .int .i64 c1, .int .i64 r1, .bool f1, .bool g1, .int .i64 c2, .int .i64 r2, .bool f2, .bool g2, .bool false]] w fun e w' => e = .returned (.agg #[.int .i64 c1, .int .i64 r1, .int .i64 c1, .int .i64 r1]) ∧ Below w.heap.size w w' := by
  go_enter Tryz.func111, Tryz.ntmps111
  go_wp2
  refine bodyPost_ret (results_c1 rfl _ _ _ _ _ _ rfl (cells_new2 _ _ _ _) Tryz.underlying154 rfl (by exact infoA)) rfl ?_
  exact ⟨rfl, below_al2 _ _ _⟩

set_option maxRecDepth 100000 in
set_option maxHeartbeats 4000000 in
theorem fullGood_val (f : Fl) (w : World) :
    Calls Tryz.prog 70 #[.agg f.cells] w fun e w' => e = .returned (.bool (goodF f)) ∧ Below w.heap.size w w' := by
  obtain ⟨bk, sh, ⟨c1, r1, f1, g1⟩, ⟨c2, r2, f2, g2⟩, wd⟩ := f
  rw [goodF_mk]
  unfold Fl.cells
  simp only []
  have HNS := hide (fun w => name_val sh w)
  have HNB := hide (fun w => name_val bk w)
  generalize nameG sh.data.toList = nS at HNS ⊢
  generalize nameG bk.data.toList = nB at HNB ⊢
  cases eS : (sh.toList == [])
  · rw [Bool.false_or, Bool.not_false, Bool.true_and]
    cases nS
    · have E : ∀ a b : Bool, (false && a && b) = false := fun _ _ => rfl
      rw [E]
      clear E
      go_enter Tryz.func70, Tryz.ntmps70
      go_upto_region 1 with fail
      have P := hide (cells_new w 52 #[.string bk, .string sh, .int .i64 c1, .int .i64 r1, .bool f1, .bool g1, .int .i64 c2, .int .i64 r2, .bool f2, .bool g2, .bool wd])
      have HB : Hid (Below w.heap.size w (w.alloc (.cells #[.string bk, .string sh, .int .i64 c1, .int .i64 r1, .bool f1, .bool g1, .int .i64 c2, .int .i64 r2, .bool f2, .bool g2, .bool wd] 52))) := hide (below_al _ _)
      generalize hW : w.alloc (.cells #[.string bk, .string sh, .int .i64 c1, .int .i64 r1, .bool f1, .bool g1, .int .i64 c2, .int .i64 r2, .bool f2, .bool g2, .bool wd] 52) = W0 at P HB ⊢
      clear hW
      obtain ⟨p_0, p_1, p_2, p_3, p_4, p_5, p_6, p_7, p_8, p_9, p_10⟩ := cells11 (unhide P)
      go_wp2_with fail
      refine (unhide HNS _).mono ?_
      rintro e wk1 ⟨rfl, bk1⟩
      replace P := hide (cells_nx (unhide P) bk1)
      replace HB := hide (below_nx (unhide HB) bk1)
      clear bk1
      clear p_0 p_1 p_2 p_3 p_4 p_5 p_6 p_7 p_8 p_9 p_10
      obtain ⟨p_0, p_1, p_2, p_3, p_4, p_5, p_6, p_7, p_8, p_9, p_10⟩ := cells11 (unhide P)
      go_wp2
      go_ret
      exact ⟨rfl, unhide HB⟩
    · rw [Bool.true_and]
      cases eB : (bk.toList == [])
      · rw [Bool.false_or]
        cases nB
        · rw [Bool.false_and]
          go_enter Tryz.func70, Tryz.ntmps70
          go_upto_region 1 with fail
          have P := hide (cells_new w 52 #[.string bk, .string sh, .int .i64 c1, .int .i64 r1, .bool f1, .bool g1, .int .i64 c2, .int .i64 r2, .bool f2, .bool g2, .bool wd])
          have HB : Hid (Below w.heap.size w (w.alloc (.cells #[.string bk, .string sh, .int .i64 c1, .int .i64 r1, .bool f1, .bool g1, .int .i64 c2, .int .i64 r2, .bool f2, .bool g2, .bool wd] 52))) := hide (below_al _ _)
          generalize hW : w.alloc (.cells #[.string bk, .string sh, .int .i64 c1, .int .i64 r1, .bool f1, .bool g1, .int .i64 c2, .int .i64 r2, .bool f2, .bool g2, .bool wd] 52) = W0 at P HB ⊢
          clear hW
          obtain ⟨p_0, p_1, p_2, p_3, p_4, p_5, p_6, p_7, p_8, p_9, p_10⟩ := cells11 (unhide P)
          go_wp2_with fail
          refine (unhide HNS _).mono ?_
          rintro e wk1 ⟨rfl, bk1⟩
          replace P := hide (cells_nx (unhide P) bk1)
          replace HB := hide (below_nx (unhide HB) bk1)
          clear bk1
          clear p_0 p_1 p_2 p_3 p_4 p_5 p_6 p_7 p_8 p_9 p_10
          obtain ⟨p_0, p_1, p_2, p_3, p_4, p_5, p_6, p_7, p_8, p_9, p_10⟩ := cells11 (unhide P)
          go_wp2_with fail
          refine (unhide HNB _).mono ?_
          rintro e wk2 ⟨rfl, bk2⟩
          replace P := hide (cells_nx (unhide P) bk2)
          replace HB := hide (below_nx (unhide HB) bk2)
          clear bk2
          clear p_0 p_1 p_2 p_3 p_4 p_5 p_6 p_7 p_8 p_9 p_10
          obtain ⟨p_0, p_1, p_2, p_3, p_4, p_5, p_6, p_7, p_8, p_9, p_10⟩ := cells11 (unhide P)
          go_wp2
          go_ret
          exact ⟨rfl, unhide HB⟩
        · rw [Bool.true_and]
          cases wd
          · have HSP := hide (fun w => span_one bk sh c1 r1 f1 g1 c2 r2 f2 g2 w)
            have HAG := hide (fun w => areaGood_val c1 r1 c1 r1 w)
            rw [area_one] at HAG
            have hq := fun w => rf_ne0 c2 r2 f2 g2 w
            rw [if_neg (by simp)]
            cases hz : zeroB ⟨c2, r2, f2, g2⟩
            · rw [hz] at hq
              have hz2 : ∀ b : Bool, (false && b) = false := fun _ => rfl
              rw [hz2]
              clear hz hz2
              go_enter Tryz.func70, Tryz.ntmps70
              go_upto_region 1 with fail
              have P := hide (cells_new w 52 #[.string bk, .string sh, .int .i64 c1, .int .i64 r1, .bool f1, .bool g1, .int .i64 c2, .int .i64 r2, .bool f2, .bool g2, .bool false])
              have HB : Hid (Below w.heap.size w (w.alloc (.cells #[.string bk, .string sh, .int .i64 c1, .int .i64 r1, .bool f1, .bool g1, .int .i64 c2, .int .i64 r2, .bool f2, .bool g2, .bool false] 52))) := hide (below_al _ _)
              generalize hW : w.alloc (.cells #[.string bk, .string sh, .int .i64 c1, .int .i64 r1, .bool f1, .bool g1, .int .i64 c2, .int .i64 r2, .bool f2, .bool g2, .bool false] 52) = W0 at P HB ⊢
              clear hW
              obtain ⟨p_0, p_1, p_2, p_3, p_4, p_5, p_6, p_7, p_8, p_9, p_10⟩ := cells11 (unhide P)
              go_wp2_with fail
              refine (unhide HNS _).mono ?_
              rintro e wk1 ⟨rfl, bk1⟩
              replace P := hide (cells_nx (unhide P) bk1)
              replace HB := hide (below_nx (unhide HB) bk1)
              clear bk1
              clear p_0 p_1 p_2 p_3 p_4 p_5 p_6 p_7 p_8 p_9 p_10
              obtain ⟨p_0, p_1, p_2, p_3, p_4, p_5, p_6, p_7, p_8, p_9, p_10⟩ := cells11 (unhide P)
              go_wp2_with fail
              refine (unhide HNB _).mono ?_
              rintro e wk2 ⟨rfl, bk2⟩
              replace P := hide (cells_nx (unhide P) bk2)
              replace HB := hide (below_nx (unhide HB) bk2)
              clear bk2
              clear p_0 p_1 p_2 p_3 p_4 p_5 p_6 p_7 p_8 p_9 p_10
              obtain ⟨p_0, p_1, p_2, p_3, p_4, p_5, p_6, p_7, p_8, p_9, p_10⟩ := cells11 (unhide P)
              go_wp2
              go_ret
              exact ⟨rfl, unhide HB⟩
            · rw [hz] at hq
              rw [Bool.true_and]
              clear hz
              generalize cellG c1 r1 = g at HAG ⊢
              go_enter Tryz.func70, Tryz.ntmps70
              go_upto_region 1 with fail
              have P := hide (cells_new w 52 #[.string bk, .string sh, .int .i64 c1, .int .i64 r1, .bool f1, .bool g1, .int .i64 c2, .int .i64 r2, .bool f2, .bool g2, .bool false])
              have HB : Hid (Below w.heap.size w (w.alloc (.cells #[.string bk, .string sh, .int .i64 c1, .int .i64 r1, .bool f1, .bool g1, .int .i64 c2, .int .i64 r2, .bool f2, .bool g2, .bool false] 52))) := hide (below_al _ _)
              generalize hW : w.alloc (.cells #[.string bk, .string sh, .int .i64 c1, .int .i64 r1, .bool f1, .bool g1, .int .i64 c2, .int .i64 r2, .bool f2, .bool g2, .bool false] 52) = W0 at P HB ⊢
              clear hW
              obtain ⟨p_0, p_1, p_2, p_3, p_4, p_5, p_6, p_7, p_8, p_9, p_10⟩ := cells11 (unhide P)
              go_wp2_with fail
              refine (unhide HNS _).mono ?_
              rintro e wk1 ⟨rfl, bk1⟩
              replace P := hide (cells_nx (unhide P) bk1)
              replace HB := hide (below_nx (unhide HB) bk1)
              clear bk1
              clear p_0 p_1 p_2 p_3 p_4 p_5 p_6 p_7 p_8 p_9 p_10
              obtain ⟨p_0, p_1, p_2, p_3, p_4, p_5, p_6, p_7, p_8, p_9, p_10⟩ := cells11 (unhide P)
              go_wp2_with fail
              refine (unhide HNB _).mono ?_
              rintro e wk2 ⟨rfl, bk2⟩
              replace P := hide (cells_nx (unhide P) bk2)
              replace HB := hide (below_nx (unhide HB) bk2)
              clear bk2
              clear p_0 p_1 p_2 p_3 p_4 p_5 p_6 p_7 p_8 p_9 p_10
              obtain ⟨p_0, p_1, p_2, p_3, p_4, p_5, p_6, p_7, p_8, p_9, p_10⟩ := cells11 (unhide P)
              go_wp2_with fail
              refine (unhide HSP _).mono ?_
              rintro e wk3 ⟨rfl, bk3⟩
              replace P := hide (cells_nx (unhide P) bk3)
              replace HB := hide (below_nx (unhide HB) bk3)
              clear bk3
              clear p_0 p_1 p_2 p_3 p_4 p_5 p_6 p_7 p_8 p_9 p_10
              go_wp2_with fail
              refine (unhide HAG _).mono ?_
              rintro e wk4 ⟨rfl, bk4⟩
              replace P := hide (cells_nx (unhide P) bk4)
              replace HB := hide (below_nx (unhide HB) bk4)
              clear bk4
              go_wp2
              go_ret
              exact ⟨rfl, unhide HB⟩
          · have HSP := hide (fun w => span_wide bk sh c1 r1 f1 g1 c2 r2 f2 g2 w)
            have HAG := hide (fun w => areaGood_val c1 r1 c2 r2 w)
            rw [if_pos rfl]
            generalize areaG c1 r1 c2 r2 = g at HAG ⊢
            go_enter Tryz.func70, Tryz.ntmps70
            go_upto_region 1 with fail
            have P := hide (cells_new w 52 #[.string bk, .string sh, .int .i64 c1, .int .i64 r1, .bool f1, .bool g1, .int .i64 c2, .int .i64 r2, .bool f2, .bool g2, .bool true])
            have HB : Hid (Below w.heap.size w (w.alloc (.cells #[.string bk, .string sh, .int .i64 c1, .int .i64 r1, .bool f1, .bool g1, .int .i64 c2, .int .i64 r2, .bool f2, .bool g2, .bool true] 52))) := hide (below_al _ _)
            generalize hW : w.alloc (.cells #[.string bk, .string sh, .int .i64 c1, .int .i64 r1, .bool f1, .bool g1, .int .i64 c2, .int .i64 r2, .bool f2, .bool g2, .bool true] 52) = W0 at P HB ⊢
            clear hW
            obtain ⟨p_0, p_1, p_2, p_3, p_4, p_5, p_6, p_7, p_8, p_9, p_10⟩ := cells11 (unhide P)
            go_wp2_with fail
            refine (unhide HNS _).mono ?_
            rintro e wk1 ⟨rfl, bk1⟩
            replace P := hide (cells_nx (unhide P) bk1)
            replace HB := hide (below_nx (unhide HB) bk1)
            clear bk1
            clear p_0 p_1 p_2 p_3 p_4 p_5 p_6 p_7 p_8 p_9 p_10
            obtain ⟨p_0, p_1, p_2, p_3, p_4, p_5, p_6, p_7, p_8, p_9, p_10⟩ := cells11 (unhide P)
            go_wp2_with fail
            refine (unhide HNB _).mono ?_
            rintro e wk2 ⟨rfl, bk2⟩
            replace P := hide (cells_nx (unhide P) bk2)
            replace HB := hide (below_nx (unhide HB) bk2)
            clear bk2
            clear p_0 p_1 p_2 p_3 p_4 p_5 p_6 p_7 p_8 p_9 p_10
            obtain ⟨p_0, p_1, p_2, p_3, p_4, p_5, p_6, p_7, p_8, p_9, p_10⟩ := cells11 (unhide P)
            go_wp2_with fail
            refine (unhide HSP _).mono ?_
            rintro e wk3 ⟨rfl, bk3⟩
            replace P := hide (cells_nx (unhide P) bk3)
            replace HB := hide (below_nx (unhide HB) bk3)
            clear bk3
            clear p_0 p_1 p_2 p_3 p_4 p_5 p_6 p_7 p_8 p_9 p_10
            go_wp2_with fail
            refine (unhide HAG _).mono ?_
            rintro e wk4 ⟨rfl, bk4⟩
            replace P := hide (cells_nx (unhide P) bk4)
            replace HB := hide (below_nx (unhide HB) bk4)
            clear bk4
            go_wp2
            go_ret
            exact ⟨rfl, unhide HB⟩
      · rw [Bool.true_or, Bool.true_and]
        cases wd
        · have HSP := hide (fun w => span_one bk sh c1 r1 f1 g1 c2 r2 f2 g2 w)
          have HAG := hide (fun w => areaGood_val c1 r1 c1 r1 w)
          rw [area_one] at HAG
          have hq := fun w => rf_ne0 c2 r2 f2 g2 w
          rw [if_neg (by simp)]
          cases hz : zeroB ⟨c2, r2, f2, g2⟩
          · rw [hz] at hq
            have hz2 : ∀ b : Bool, (false && b) = false := fun _ => rfl
            rw [hz2]
            clear hz hz2
            go_enter Tryz.func70, Tryz.ntmps70
            go_upto_region 1 with fail
            have P := hide (cells_new w 52 #[.string bk, .string sh, .int .i64 c1, .int .i64 r1, .bool f1, .bool g1, .int .i64 c2, .int .i64 r2, .bool f2, .bool g2, .bool false])
            have HB : Hid (Below w.heap.size w (w.alloc (.cells #[.string bk, .string sh, .int .i64 c1, .int .i64 r1, .bool f1, .bool g1, .int .i64 c2, .int .i64 r2, .bool f2, .bool g2, .bool false] 52))) := hide (below_al _ _)
            generalize hW : w.alloc (.cells #[.string bk, .string sh, .int .i64 c1, .int .i64 r1, .bool f1, .bool g1, .int .i64 c2, .int .i64 r2, .bool f2, .bool g2, .bool false] 52) = W0 at P HB ⊢
            clear hW
            obtain ⟨p_0, p_1, p_2, p_3, p_4, p_5, p_6, p_7, p_8, p_9, p_10⟩ := cells11 (unhide P)
            go_wp2_with fail
            refine (unhide HNS _).mono ?_
            rintro e wk1 ⟨rfl, bk1⟩
            replace P := hide (cells_nx (unhide P) bk1)
            replace HB := hide (below_nx (unhide HB) bk1)
            clear bk1
            clear p_0 p_1 p_2 p_3 p_4 p_5 p_6 p_7 p_8 p_9 p_10
            obtain ⟨p_0, p_1, p_2, p_3, p_4, p_5, p_6, p_7, p_8, p_9, p_10⟩ := cells11 (unhide P)
            go_wp2
            go_ret
            exact ⟨rfl, unhide HB⟩
          · rw [hz] at hq
            rw [Bool.true_and]
            clear hz
            generalize cellG c1 r1 = g at HAG ⊢
            go_enter Tryz.func70, Tryz.ntmps70
            go_upto_region 1 with fail
            have P := hide (cells_new w 52 #[.string bk, .string sh, .int .i64 c1, .int .i64 r1, .bool f1, .bool g1, .int .i64 c2, .int .i64 r2, .bool f2, .bool g2, .bool false])
            have HB : Hid (Below w.heap.size w (w.alloc (.cells #[.string bk, .string sh, .int .i64 c1, .int .i64 r1, .bool f1, .bool g1, .int .i64 c2, .int .i64 r2, .bool f2, .bool g2, .bool false] 52))) := hide (below_al _ _)
            generalize hW : w.alloc (.cells #[.string bk, .string sh, .int .i64 c1, .int .i64 r1, .bool f1, .bool g1, .int .i64 c2, .int .i64 r2, .bool f2, .bool g2, .bool false] 52) = W0 at P HB ⊢
            clear hW
            obtain ⟨p_0, p_1, p_2, p_3, p_4, p_5, p_6, p_7, p_8, p_9, p_10⟩ := cells11 (unhide P)
            go_wp2_with fail
            refine (unhide HNS _).mono ?_
            rintro e wk1 ⟨rfl, bk1⟩
            replace P := hide (cells_nx (unhide P) bk1)
            replace HB := hide (below_nx (unhide HB) bk1)
            clear bk1
            clear p_0 p_1 p_2 p_3 p_4 p_5 p_6 p_7 p_8 p_9 p_10
            obtain ⟨p_0, p_1, p_2, p_3, p_4, p_5, p_6, p_7, p_8, p_9, p_10⟩ := cells11 (unhide P)
            go_wp2_with fail
            refine (unhide HSP _).mono ?_
            rintro e wk2 ⟨rfl, bk2⟩
            replace P := hide (cells_nx (unhide P) bk2)
            replace HB := hide (below_nx (unhide HB) bk2)
            clear bk2
            clear p_0 p_1 p_2 p_3 p_4 p_5 p_6 p_7 p_8 p_9 p_10
            go_wp2_with fail
            refine (unhide HAG _).mono ?_
            rintro e wk3 ⟨rfl, bk3⟩
            replace P := hide (cells_nx (unhide P) bk3)
            replace HB := hide (below_nx (unhide HB) bk3)
            clear bk3
            go_wp2
            go_ret
            exact ⟨rfl, unhide HB⟩
        · have HSP := hide (fun w => span_wide bk sh c1 r1 f1 g1 c2 r2 f2 g2 w)
          have HAG := hide (fun w => areaGood_val c1 r1 c2 r2 w)
          rw [if_pos rfl]
          generalize areaG c1 r1 c2 r2 = g at HAG ⊢
          go_enter Tryz.func70, Tryz.ntmps70
          go_upto_region 1 with fail
          have P := hide (cells_new w 52 #[.string bk, .string sh, .int .i64 c1, .int .i64 r1, .bool f1, .bool g1, .int .i64 c2, .int .i64 r2, .bool f2, .bool g2, .bool true])
          have HB : Hid (Below w.heap.size w (w.alloc (.cells #[.string bk, .string sh, .int .i64 c1, .int .i64 r1, .bool f1, .bool g1, .int .i64 c2, .int .i64 r2, .bool f2, .bool g2, .bool true] 52))) := hide (below_al _ _)
          generalize hW : w.alloc (.cells #[.string bk, .string sh, .int .i64 c1, .int .i64 r1, .bool f1, .bool g1, .int .i64 c2, .int .i64 r2, .bool f2, .bool g2, .bool true] 52) = W0 at P HB ⊢
          clear hW
          obtain ⟨p_0, p_1, p_2, p_3, p_4, p_5, p_6, p_7, p_8, p_9, p_10⟩ := cells11 (unhide P)
          go_wp2_with fail
          refine (unhide HNS _).mono ?_
          rintro e wk1 ⟨rfl, bk1⟩
          replace P := hide (cells_nx (unhide P) bk1)
          replace HB := hide (below_nx (unhide HB) bk1)
          clear bk1
          clear p_0 p_1 p_2 p_3 p_4 p_5 p_6 p_7 p_8 p_9 p_10
          obtain ⟨p_0, p_1, p_2, p_3, p_4, p_5, p_6, p_7, p_8, p_9, p_10⟩ := cells11 (unhide P)
          go_wp2_with fail
          refine (unhide HSP _).mono ?_
          rintro e wk2 ⟨rfl, bk2⟩
          replace P := hide (cells_nx (unhide P) bk2)
          replace HB := hide (below_nx (unhide HB) bk2)
          clear bk2
          clear p_0 p_1 p_2 p_3 p_4 p_5 p_6 p_7 p_8 p_9 p_10
          go_wp2_with fail
          refine (unhide HAG _).mono ?_
          rintro e wk3 ⟨rfl, bk3⟩
          replace P := hide (cells_nx (unhide P) bk3)
          replace HB := hide (below_nx (unhide HB) bk3)
          clear bk3
          go_wp2
          go_ret
          exact ⟨rfl, unhide HB⟩
  · rw [Bool.true_or, Bool.true_and, Bool.not_true, Bool.false_and, Bool.or_false]
    cases eB : (bk.toList == [])
    · rw [Bool.false_and]
      go_enter Tryz.func70, Tryz.ntmps70
      go_upto_region 1 with fail
      have P := hide (cells_new w 52 #[.string bk, .string sh, .int .i64 c1, .int .i64 r1, .bool f1, .bool g1, .int .i64 c2, .int .i64 r2, .bool f2, .bool g2, .bool wd])
      have HB : Hid (Below w.heap.size w (w.alloc (.cells #[.string bk, .string sh, .int .i64 c1, .int .i64 r1, .bool f1, .bool g1, .int .i64 c2, .int .i64 r2, .bool f2, .bool g2, .bool wd] 52))) := hide (below_al _ _)
      generalize hW : w.alloc (.cells #[.string bk, .string sh, .int .i64 c1, .int .i64 r1, .bool f1, .bool g1, .int .i64 c2, .int .i64 r2, .bool f2, .bool g2, .bool wd] 52) = W0 at P HB ⊢
      clear hW
      obtain ⟨p_0, p_1, p_2, p_3, p_4, p_5, p_6, p_7, p_8, p_9, p_10⟩ := cells11 (unhide P)
      go_wp2
      go_ret
      exact ⟨rfl, unhide HB⟩
    · rw [Bool.true_and]
      cases wd
      · have HSP := hide (fun w => span_one bk sh c1 r1 f1 g1 c2 r2 f2 g2 w)
        have HAG := hide (fun w => areaGood_val c1 r1 c1 r1 w)
        rw [area_one] at HAG
        have hq := fun w => rf_ne0 c2 r2 f2 g2 w
        rw [if_neg (by simp)]
        cases hz : zeroB ⟨c2, r2, f2, g2⟩
        · rw [hz] at hq
          have hz2 : ∀ b : Bool, (false && b) = false := fun _ => rfl
          rw [hz2]
          clear hz hz2
          go_enter Tryz.func70, Tryz.ntmps70
          go_upto_region 1 with fail
          have P := hide (cells_new w 52 #[.string bk, .string sh, .int .i64 c1, .int .i64 r1, .bool f1, .bool g1, .int .i64 c2, .int .i64 r2, .bool f2, .bool g2, .bool false])
          have HB : Hid (Below w.heap.size w (w.alloc (.cells #[.string bk, .string sh, .int .i64 c1, .int .i64 r1, .bool f1, .bool g1, .int .i64 c2, .int .i64 r2, .bool f2, .bool g2, .bool false] 52))) := hide (below_al _ _)
          generalize hW : w.alloc (.cells #[.string bk, .string sh, .int .i64 c1, .int .i64 r1, .bool f1, .bool g1, .int .i64 c2, .int .i64 r2, .bool f2, .bool g2, .bool false] 52) = W0 at P HB ⊢
          clear hW
          obtain ⟨p_0, p_1, p_2, p_3, p_4, p_5, p_6, p_7, p_8, p_9, p_10⟩ := cells11 (unhide P)
          go_wp2
          go_ret
          exact ⟨rfl, unhide HB⟩
        · rw [hz] at hq
          rw [Bool.true_and]
          clear hz
          generalize cellG c1 r1 = g at HAG ⊢
          go_enter Tryz.func70, Tryz.ntmps70
          go_upto_region 1 with fail
          have P := hide (cells_new w 52 #[.string bk, .string sh, .int .i64 c1, .int .i64 r1, .bool f1, .bool g1, .int .i64 c2, .int .i64 r2, .bool f2, .bool g2, .bool false])
          have HB : Hid (Below w.heap.size w (w.alloc (.cells #[.string bk, .string sh, .int .i64 c1, .int .i64 r1, .bool f1, .bool g1, .int .i64 c2, .int .i64 r2, .bool f2, .bool g2, .bool false] 52))) := hide (below_al _ _)
          generalize hW : w.alloc (.cells #[.string bk, .string sh, .int .i64 c1, .int .i64 r1, .bool f1, .bool g1, .int .i64 c2, .int .i64 r2, .bool f2, .bool g2, .bool false] 52) = W0 at P HB ⊢
          clear hW
          obtain ⟨p_0, p_1, p_2, p_3, p_4, p_5, p_6, p_7, p_8, p_9, p_10⟩ := cells11 (unhide P)
          go_wp2_with fail
          refine (unhide HSP _).mono ?_
          rintro e wk1 ⟨rfl, bk1⟩
          replace P := hide (cells_nx (unhide P) bk1)
          replace HB := hide (below_nx (unhide HB) bk1)
          clear bk1
          clear p_0 p_1 p_2 p_3 p_4 p_5 p_6 p_7 p_8 p_9 p_10
          go_wp2_with fail
          refine (unhide HAG _).mono ?_
          rintro e wk2 ⟨rfl, bk2⟩
          replace P := hide (cells_nx (unhide P) bk2)
          replace HB := hide (below_nx (unhide HB) bk2)
          clear bk2
          go_wp2
          go_ret
          exact ⟨rfl, unhide HB⟩
      · have HSP := hide (fun w => span_wide bk sh c1 r1 f1 g1 c2 r2 f2 g2 w)
        have HAG := hide (fun w => areaGood_val c1 r1 c2 r2 w)
        rw [if_pos rfl]
        generalize areaG c1 r1 c2 r2 = g at HAG ⊢
        go_enter Tryz.func70, Tryz.ntmps70
        go_upto_region 1 with fail
        have P := hide (cells_new w 52 #[.string bk, .string sh, .int .i64 c1, .int .i64 r1, .bool f1, .bool g1, .int .i64 c2, .int .i64 r2, .bool f2, .bool g2, .bool true])
        have HB : Hid (Below w.heap.size w (w.alloc (.cells #[.string bk, .string sh, .int .i64 c1, .int .i64 r1, .bool f1, .bool g1, .int .i64 c2, .int .i64 r2, .bool f2, .bool g2, .bool true] 52))) := hide (below_al _ _)
        generalize hW : w.alloc (.cells #[.string bk, .string sh, .int .i64 c1, .int .i64 r1, .bool f1, .bool g1, .int .i64 c2, .int .i64 r2, .bool f2, .bool g2, .bool true] 52) = W0 at P HB ⊢
        clear hW
        obtain ⟨p_0, p_1, p_2, p_3, p_4, p_5, p_6, p_7, p_8, p_9, p_10⟩ := cells11 (unhide P)
        go_wp2_with fail
        refine (unhide HSP _).mono ?_
        rintro e wk1 ⟨rfl, bk1⟩
        replace P := hide (cells_nx (unhide P) bk1)
        replace HB := hide (below_nx (unhide HB) bk1)
        clear bk1
        clear p_0 p_1 p_2 p_3 p_4 p_5 p_6 p_7 p_8 p_9 p_10
        go_wp2_with fail
        refine (unhide HAG _).mono ?_
        rintro e wk2 ⟨rfl, bk2⟩
        replace P := hide (cells_nx (unhide P) bk2)
        replace HB := hide (below_nx (unhide HB) bk2)
        clear bk2
        go_wp2
        go_ret
        exact ⟨rfl, unhide HB⟩
/-- The area that a reference names. -/
def areaV (f : Fl) : Array Value := if goodF f = true then (if f.wide = true then #[.int .i64 f.a.col, .int .i64 f.a.row, .int .i64 f.b.col, .int .i64 f.b.row] else #[.int .i64 f.a.col, .int .i64 f.a.row, .int .i64 f.a.col, .int .i64 f.a.row]) else #[.int .i64 0, .int .i64 0, .int .i64 0, .int .i64 0]

end Go.Proofs.YtloamahbghjjgaaGreatDoor

namespace Go.Proofs.YtloamahbghjjgaaGreatDoor
open Go.RowKit

set_option maxRecDepth 100000 in
set_option maxHeartbeats 4000000 in
theorem good4_ref (f : Fl) (w : World) :
    Calls Tryz.prog 80 #[.agg f.cells] w fun e w' => e = .returned (.bool (goodF f)) ∧ Below w.heap.size w w' := by
  obtain ⟨bk, sh, ⟨c1, r1, f1, g1⟩, ⟨c2, r2, f2, g2⟩, wd⟩ := f
  rw [goodF_mk]
  unfold Fl.cells
  simp only []
  have HNS := hide (fun w => name_ref sh w)
  have HNB := hide (fun w => name_ref bk w)
  generalize nameG sh.data.toList = nS at HNS ⊢
  generalize nameG bk.data.toList = nB at HNB ⊢
  cases eS : (sh.toList == [])
  · rw [Bool.false_or, Bool.not_false, Bool.true_and]
    cases nS
    · have E : ∀ a b : Bool, (false && a && b) = false := fun _ _ => rfl
      rw [E]
      clear E
      go_enter Tryz.func80, Tryz.ntmps80
      go_upto_region 1 with fail
      have P := hide (cells_new w 69 #[.string bk, .string sh, .int .i64 c1, .int .i64 r1, .bool f1, .bool g1, .int .i64 c2, .int .i64 r2, .bool f2, .bool g2, .bool wd])
      have HB : Hid (Below w.heap.size w (w.alloc (.cells #[.string bk, .string sh, .int .i64 c1, .int .i64 r1, .bool f1, .bool g1, .int .i64 c2, .int .i64 r2, .bool f2, .bool g2, .bool wd] 69))) := hide (below_al _ _)
      generalize hW : w.alloc (.cells #[.string bk, .string sh, .int .i64 c1, .int .i64 r1, .bool f1, .bool g1, .int .i64 c2, .int .i64 r2, .bool f2, .bool g2, .bool wd] 69) = W0 at P HB ⊢
      clear hW
      obtain ⟨p_0, p_1, p_2, p_3, p_4, p_5, p_6, p_7, p_8, p_9, p_10⟩ := cells11 (unhide P)
      go_wp2_with fail
      refine (unhide HNS _).mono ?_
      rintro e wk1 ⟨rfl, rfl⟩
      go_wp2_with fail
      refine (unhide HNB _).mono ?_
      rintro e wk2 ⟨rfl, rfl⟩
      go_wp2
      go_ret
      exact ⟨rfl, unhide HB⟩
    · rw [Bool.true_and]
      cases eB : (bk.toList == [])
      · rw [Bool.false_or]
        cases nB
        · rw [Bool.false_and]
          go_enter Tryz.func80, Tryz.ntmps80
          go_upto_region 1 with fail
          have P := hide (cells_new w 69 #[.string bk, .string sh, .int .i64 c1, .int .i64 r1, .bool f1, .bool g1, .int .i64 c2, .int .i64 r2, .bool f2, .bool g2, .bool wd])
          have HB : Hid (Below w.heap.size w (w.alloc (.cells #[.string bk, .string sh, .int .i64 c1, .int .i64 r1, .bool f1, .bool g1, .int .i64 c2, .int .i64 r2, .bool f2, .bool g2, .bool wd] 69))) := hide (below_al _ _)
          generalize hW : w.alloc (.cells #[.string bk, .string sh, .int .i64 c1, .int .i64 r1, .bool f1, .bool g1, .int .i64 c2, .int .i64 r2, .bool f2, .bool g2, .bool wd] 69) = W0 at P HB ⊢
          clear hW
          obtain ⟨p_0, p_1, p_2, p_3, p_4, p_5, p_6, p_7, p_8, p_9, p_10⟩ := cells11 (unhide P)
          go_wp2_with fail
          refine (unhide HNS _).mono ?_
          rintro e wk1 ⟨rfl, rfl⟩
          go_wp2_with fail
          refine (unhide HNB _).mono ?_
          rintro e wk2 ⟨rfl, rfl⟩
          go_wp2
          go_ret
          exact ⟨rfl, unhide HB⟩
        · rw [Bool.true_and]
          cases wd
          · rw [if_neg (by simp)]
            have HCE := hide (fun w => cell_ref c1 r1 w)
            by_cases h1 : c2 = 0
            · by_cases h2 : r2 = 0
              · subst h1
                subst h2
                cases f2
                · cases g2
                  · have hz : zeroB ⟨0, 0, false, false⟩ = true := rfl
                    rw [hz, Bool.true_and]
                    clear hz
                    generalize cellG c1 r1 = g at HCE ⊢
                    go_enter Tryz.func80, Tryz.ntmps80
                    go_upto_region 1 with fail
                    have P := hide (cells_new w 69 #[.string bk, .string sh, .int .i64 c1, .int .i64 r1, .bool f1, .bool g1, .int .i64 0, .int .i64 0, .bool false, .bool false, .bool false])
                    have HB : Hid (Below w.heap.size w (w.alloc (.cells #[.string bk, .string sh, .int .i64 c1, .int .i64 r1, .bool f1, .bool g1, .int .i64 0, .int .i64 0, .bool false, .bool false, .bool false] 69))) := hide (below_al _ _)
                    generalize hW : w.alloc (.cells #[.string bk, .string sh, .int .i64 c1, .int .i64 r1, .bool f1, .bool g1, .int .i64 0, .int .i64 0, .bool false, .bool false, .bool false] 69) = W0 at P HB ⊢
                    clear hW
                    obtain ⟨p_0, p_1, p_2, p_3, p_4, p_5, p_6, p_7, p_8, p_9, p_10⟩ := cells11 (unhide P)
                    go_wp2_with fail
                    refine (unhide HNS _).mono ?_
                    rintro e wk1 ⟨rfl, rfl⟩
                    go_wp2_with fail
                    refine (unhide HNB _).mono ?_
                    rintro e wk2 ⟨rfl, rfl⟩
                    go_wp2_with fail
                    refine (unhide HCE _).mono ?_
                    rintro e wk3 ⟨rfl, rfl⟩
                    go_wp2
                    go_ret
                    exact ⟨rfl, unhide HB⟩
                  · have hz : zeroB ⟨0, 0, false, true⟩ = false := rfl
                    rw [hz, Bool.false_and]
                    clear hz
                    go_enter Tryz.func80, Tryz.ntmps80
                    go_upto_region 1 with fail
                    have P := hide (cells_new w 69 #[.string bk, .string sh, .int .i64 c1, .int .i64 r1, .bool f1, .bool g1, .int .i64 0, .int .i64 0, .bool false, .bool true, .bool false])
                    have HB : Hid (Below w.heap.size w (w.alloc (.cells #[.string bk, .string sh, .int .i64 c1, .int .i64 r1, .bool f1, .bool g1, .int .i64 0, .int .i64 0, .bool false, .bool true, .bool false] 69))) := hide (below_al _ _)
                    generalize hW : w.alloc (.cells #[.string bk, .string sh, .int .i64 c1, .int .i64 r1, .bool f1, .bool g1, .int .i64 0, .int .i64 0, .bool false, .bool true, .bool false] 69) = W0 at P HB ⊢
                    clear hW
                    obtain ⟨p_0, p_1, p_2, p_3, p_4, p_5, p_6, p_7, p_8, p_9, p_10⟩ := cells11 (unhide P)
                    go_wp2_with fail
                    refine (unhide HNS _).mono ?_
                    rintro e wk1 ⟨rfl, rfl⟩
                    go_wp2_with fail
                    refine (unhide HNB _).mono ?_
                    rintro e wk2 ⟨rfl, rfl⟩
                    go_wp2
                    go_ret
                    exact ⟨rfl, unhide HB⟩
                · have hz : zeroB ⟨0, 0, true, g2⟩ = false := rfl
                  rw [hz, Bool.false_and]
                  clear hz
                  go_enter Tryz.func80, Tryz.ntmps80
                  go_upto_region 1 with fail
                  have P := hide (cells_new w 69 #[.string bk, .string sh, .int .i64 c1, .int .i64 r1, .bool f1, .bool g1, .int .i64 0, .int .i64 0, .bool true, .bool g2, .bool false])
                  have HB : Hid (Below w.heap.size w (w.alloc (.cells #[.string bk, .string sh, .int .i64 c1, .int .i64 r1, .bool f1, .bool g1, .int .i64 0, .int .i64 0, .bool true, .bool g2, .bool false] 69))) := hide (below_al _ _)
                  generalize hW : w.alloc (.cells #[.string bk, .string sh, .int .i64 c1, .int .i64 r1, .bool f1, .bool g1, .int .i64 0, .int .i64 0, .bool true, .bool g2, .bool false] 69) = W0 at P HB ⊢
                  clear hW
                  obtain ⟨p_0, p_1, p_2, p_3, p_4, p_5, p_6, p_7, p_8, p_9, p_10⟩ := cells11 (unhide P)
                  go_wp2_with fail
                  refine (unhide HNS _).mono ?_
                  rintro e wk1 ⟨rfl, rfl⟩
                  go_wp2_with fail
                  refine (unhide HNB _).mono ?_
                  rintro e wk2 ⟨rfl, rfl⟩
                  go_wp2
                  go_ret
                  exact ⟨rfl, unhide HB⟩
              · have hz : zeroB ⟨c2, r2, f2, g2⟩ = false := by unfold zeroB; simp [h2]
                rw [hz, Bool.false_and]
                have hb : (r2 != 0) = true := by simpa using h2
                clear hz
                subst h1
                go_enter Tryz.func80, Tryz.ntmps80
                go_upto_region 1 with fail
                have P := hide (cells_new w 69 #[.string bk, .string sh, .int .i64 c1, .int .i64 r1, .bool f1, .bool g1, .int .i64 0, .int .i64 r2, .bool f2, .bool g2, .bool false])
                have HB : Hid (Below w.heap.size w (w.alloc (.cells #[.string bk, .string sh, .int .i64 c1, .int .i64 r1, .bool f1, .bool g1, .int .i64 0, .int .i64 r2, .bool f2, .bool g2, .bool false] 69))) := hide (below_al _ _)
                generalize hW : w.alloc (.cells #[.string bk, .string sh, .int .i64 c1, .int .i64 r1, .bool f1, .bool g1, .int .i64 0, .int .i64 r2, .bool f2, .bool g2, .bool false] 69) = W0 at P HB ⊢
                clear hW
                obtain ⟨p_0, p_1, p_2, p_3, p_4, p_5, p_6, p_7, p_8, p_9, p_10⟩ := cells11 (unhide P)
                go_wp2_with fail
                refine (unhide HNS _).mono ?_
                rintro e wk1 ⟨rfl, rfl⟩
                go_wp2_with fail
                refine (unhide HNB _).mono ?_
                rintro e wk2 ⟨rfl, rfl⟩
                go_wp2
                go_ret
                exact ⟨rfl, unhide HB⟩
            · have hz : zeroB ⟨c2, r2, f2, g2⟩ = false := by unfold zeroB; simp [h1]
              rw [hz, Bool.false_and]
              have hb : (c2 != 0) = true := by simpa using h1
              clear hz
              go_enter Tryz.func80, Tryz.ntmps80
              go_upto_region 1 with fail
              have P := hide (cells_new w 69 #[.string bk, .string sh, .int .i64 c1, .int .i64 r1, .bool f1, .bool g1, .int .i64 c2, .int .i64 r2, .bool f2, .bool g2, .bool false])
              have HB : Hid (Below w.heap.size w (w.alloc (.cells #[.string bk, .string sh, .int .i64 c1, .int .i64 r1, .bool f1, .bool g1, .int .i64 c2, .int .i64 r2, .bool f2, .bool g2, .bool false] 69))) := hide (below_al _ _)
              generalize hW : w.alloc (.cells #[.string bk, .string sh, .int .i64 c1, .int .i64 r1, .bool f1, .bool g1, .int .i64 c2, .int .i64 r2, .bool f2, .bool g2, .bool false] 69) = W0 at P HB ⊢
              clear hW
              obtain ⟨p_0, p_1, p_2, p_3, p_4, p_5, p_6, p_7, p_8, p_9, p_10⟩ := cells11 (unhide P)
              go_wp2_with fail
              refine (unhide HNS _).mono ?_
              rintro e wk1 ⟨rfl, rfl⟩
              go_wp2_with fail
              refine (unhide HNB _).mono ?_
              rintro e wk2 ⟨rfl, rfl⟩
              go_wp2
              go_ret
              exact ⟨rfl, unhide HB⟩
          · rw [if_pos rfl]
            have HAR : Hid (∀ w, Calls Tryz.prog 125 #[.agg #[.int .i64 c1, .int .i64 r1, .bool f1, .bool g1], .agg #[.int .i64 c2, .int .i64 r2, .bool f2, .bool g2]] w fun e w' => e = .returned (.tuple #[.bool (areaG c1 r1 c2 r2), .int .i64 (areaN c1 r1 c2 r2)]) ∧ Below w.heap.size w w') := hide (fun w => area_ref ⟨c1, r1, f1, g1⟩ ⟨c2, r2, f2, g2⟩ w)
            generalize areaG c1 r1 c2 r2 = g at HAR ⊢
            generalize areaN c1 r1 c2 r2 = n at HAR
            go_enter Tryz.func80, Tryz.ntmps80
            go_upto_region 1 with fail
            have P := hide (cells_new w 69 #[.string bk, .string sh, .int .i64 c1, .int .i64 r1, .bool f1, .bool g1, .int .i64 c2, .int .i64 r2, .bool f2, .bool g2, .bool true])
            have HB : Hid (Below w.heap.size w (w.alloc (.cells #[.string bk, .string sh, .int .i64 c1, .int .i64 r1, .bool f1, .bool g1, .int .i64 c2, .int .i64 r2, .bool f2, .bool g2, .bool true] 69))) := hide (below_al _ _)
            generalize hW : w.alloc (.cells #[.string bk, .string sh, .int .i64 c1, .int .i64 r1, .bool f1, .bool g1, .int .i64 c2, .int .i64 r2, .bool f2, .bool g2, .bool true] 69) = W0 at P HB ⊢
            clear hW
            obtain ⟨p_0, p_1, p_2, p_3, p_4, p_5, p_6, p_7, p_8, p_9, p_10⟩ := cells11 (unhide P)
            go_wp2_with fail
            refine (unhide HNS _).mono ?_
            rintro e wk1 ⟨rfl, rfl⟩
            go_wp2_with fail
            refine (unhide HNB _).mono ?_
            rintro e wk2 ⟨rfl, rfl⟩
            go_wp2_with fail
            refine (unhide HAR _).mono ?_
            rintro e wk3 ⟨rfl, bk3⟩
            replace P := hide (cells_nx (unhide P) bk3)
            replace HB := hide (below_nx (unhide HB) bk3)
            clear bk3
            clear p_0 p_1 p_2 p_3 p_4 p_5 p_6 p_7 p_8 p_9 p_10
            go_wp2
            go_ret
            exact ⟨rfl, unhide HB⟩
      · rw [Bool.true_or, Bool.true_and]
        cases wd
        · rw [if_neg (by simp)]
          have HCE := hide (fun w => cell_ref c1 r1 w)
          by_cases h1 : c2 = 0
          · by_cases h2 : r2 = 0
            · subst h1
              subst h2
              cases f2
              · cases g2
                · have hz : zeroB ⟨0, 0, false, false⟩ = true := rfl
                  rw [hz, Bool.true_and]
                  clear hz
                  generalize cellG c1 r1 = g at HCE ⊢
                  go_enter Tryz.func80, Tryz.ntmps80
                  go_upto_region 1 with fail
                  have P := hide (cells_new w 69 #[.string bk, .string sh, .int .i64 c1, .int .i64 r1, .bool f1, .bool g1, .int .i64 0, .int .i64 0, .bool false, .bool false, .bool false])
                  have HB : Hid (Below w.heap.size w (w.alloc (.cells #[.string bk, .string sh, .int .i64 c1, .int .i64 r1, .bool f1, .bool g1, .int .i64 0, .int .i64 0, .bool false, .bool false, .bool false] 69))) := hide (below_al _ _)
                  generalize hW : w.alloc (.cells #[.string bk, .string sh, .int .i64 c1, .int .i64 r1, .bool f1, .bool g1, .int .i64 0, .int .i64 0, .bool false, .bool false, .bool false] 69) = W0 at P HB ⊢
                  clear hW
                  obtain ⟨p_0, p_1, p_2, p_3, p_4, p_5, p_6, p_7, p_8, p_9, p_10⟩ := cells11 (unhide P)
                  go_wp2_with fail
                  refine (unhide HNS _).mono ?_
                  rintro e wk1 ⟨rfl, rfl⟩
                  go_wp2_with fail
                  refine (unhide HNB _).mono ?_
                  rintro e wk2 ⟨rfl, rfl⟩
                  go_wp2_with fail
                  refine (unhide HCE _).mono ?_
                  rintro e wk3 ⟨rfl, rfl⟩
                  go_wp2
                  go_ret
                  exact ⟨rfl, unhide HB⟩
                · have hz : zeroB ⟨0, 0, false, true⟩ = false := rfl
                  rw [hz, Bool.false_and]
                  clear hz
                  go_enter Tryz.func80, Tryz.ntmps80
                  go_upto_region 1 with fail
                  have P := hide (cells_new w 69 #[.string bk, .string sh, .int .i64 c1, .int .i64 r1, .bool f1, .bool g1, .int .i64 0, .int .i64 0, .bool false, .bool true, .bool false])
                  have HB : Hid (Below w.heap.size w (w.alloc (.cells #[.string bk, .string sh, .int .i64 c1, .int .i64 r1, .bool f1, .bool g1, .int .i64 0, .int .i64 0, .bool false, .bool true, .bool false] 69))) := hide (below_al _ _)
                  generalize hW : w.alloc (.cells #[.string bk, .string sh, .int .i64 c1, .int .i64 r1, .bool f1, .bool g1, .int .i64 0, .int .i64 0, .bool false, .bool true, .bool false] 69) = W0 at P HB ⊢
                  clear hW
                  obtain ⟨p_0, p_1, p_2, p_3, p_4, p_5, p_6, p_7, p_8, p_9, p_10⟩ := cells11 (unhide P)
                  go_wp2_with fail
                  refine (unhide HNS _).mono ?_
                  rintro e wk1 ⟨rfl, rfl⟩
                  go_wp2_with fail
                  refine (unhide HNB _).mono ?_
                  rintro e wk2 ⟨rfl, rfl⟩
                  go_wp2
                  go_ret
                  exact ⟨rfl, unhide HB⟩
              · have hz : zeroB ⟨0, 0, true, g2⟩ = false := rfl
                rw [hz, Bool.false_and]
                clear hz
                go_enter Tryz.func80, Tryz.ntmps80
                go_upto_region 1 with fail
                have P := hide (cells_new w 69 #[.string bk, .string sh, .int .i64 c1, .int .i64 r1, .bool f1, .bool g1, .int .i64 0, .int .i64 0, .bool true, .bool g2, .bool false])
                have HB : Hid (Below w.heap.size w (w.alloc (.cells #[.string bk, .string sh, .int .i64 c1, .int .i64 r1, .bool f1, .bool g1, .int .i64 0, .int .i64 0, .bool true, .bool g2, .bool false] 69))) := hide (below_al _ _)
                generalize hW : w.alloc (.cells #[.string bk, .string sh, .int .i64 c1, .int .i64 r1, .bool f1, .bool g1, .int .i64 0, .int .i64 0, .bool true, .bool g2, .bool false] 69) = W0 at P HB ⊢
                clear hW
                obtain ⟨p_0, p_1, p_2, p_3, p_4, p_5, p_6, p_7, p_8, p_9, p_10⟩ := cells11 (unhide P)
                go_wp2_with fail
                refine (unhide HNS _).mono ?_
                rintro e wk1 ⟨rfl, rfl⟩
                go_wp2_with fail
                refine (unhide HNB _).mono ?_
                rintro e wk2 ⟨rfl, rfl⟩
                go_wp2
                go_ret
                exact ⟨rfl, unhide HB⟩
            · have hz : zeroB ⟨c2, r2, f2, g2⟩ = false := by unfold zeroB; simp [h2]
              rw [hz, Bool.false_and]
              have hb : (r2 != 0) = true := by simpa using h2
              clear hz
              subst h1
              go_enter Tryz.func80, Tryz.ntmps80
              go_upto_region 1 with fail
              have P := hide (cells_new w 69 #[.string bk, .string sh, .int .i64 c1, .int .i64 r1, .bool f1, .bool g1, .int .i64 0, .int .i64 r2, .bool f2, .bool g2, .bool false])
              have HB : Hid (Below w.heap.size w (w.alloc (.cells #[.string bk, .string sh, .int .i64 c1, .int .i64 r1, .bool f1, .bool g1, .int .i64 0, .int .i64 r2, .bool f2, .bool g2, .bool false] 69))) := hide (below_al _ _)
              generalize hW : w.alloc (.cells #[.string bk, .string sh, .int .i64 c1, .int .i64 r1, .bool f1, .bool g1, .int .i64 0, .int .i64 r2, .bool f2, .bool g2, .bool false] 69) = W0 at P HB ⊢
              clear hW
              obtain ⟨p_0, p_1, p_2, p_3, p_4, p_5, p_6, p_7, p_8, p_9, p_10⟩ := cells11 (unhide P)
              go_wp2_with fail
              refine (unhide HNS _).mono ?_
              rintro e wk1 ⟨rfl, rfl⟩
              go_wp2_with fail
              refine (unhide HNB _).mono ?_
              rintro e wk2 ⟨rfl, rfl⟩
              go_wp2
              go_ret
              exact ⟨rfl, unhide HB⟩
          · have hz : zeroB ⟨c2, r2, f2, g2⟩ = false := by unfold zeroB; simp [h1]
            rw [hz, Bool.false_and]
            have hb : (c2 != 0) = true := by simpa using h1
            clear hz
            go_enter Tryz.func80, Tryz.ntmps80
            go_upto_region 1 with fail
            have P := hide (cells_new w 69 #[.string bk, .string sh, .int .i64 c1, .int .i64 r1, .bool f1, .bool g1, .int .i64 c2, .int .i64 r2, .bool f2, .bool g2, .bool false])
            have HB : Hid (Below w.heap.size w (w.alloc (.cells #[.string bk, .string sh, .int .i64 c1, .int .i64 r1, .bool f1, .bool g1, .int .i64 c2, .int .i64 r2, .bool f2, .bool g2, .bool false] 69))) := hide (below_al _ _)
            generalize hW : w.alloc (.cells #[.string bk, .string sh, .int .i64 c1, .int .i64 r1, .bool f1, .bool g1, .int .i64 c2, .int .i64 r2, .bool f2, .bool g2, .bool false] 69) = W0 at P HB ⊢
            clear hW
            obtain ⟨p_0, p_1, p_2, p_3, p_4, p_5, p_6, p_7, p_8, p_9, p_10⟩ := cells11 (unhide P)
            go_wp2_with fail
            refine (unhide HNS _).mono ?_
            rintro e wk1 ⟨rfl, rfl⟩
            go_wp2_with fail
            refine (unhide HNB _).mono ?_
            rintro e wk2 ⟨rfl, rfl⟩
            go_wp2
            go_ret
            exact ⟨rfl, unhide HB⟩
        · rw [if_pos rfl]
          have HAR : Hid (∀ w, Calls Tryz.prog 125 #[.agg #[.int .i64 c1, .int .i64 r1, .bool f1, .bool g1], .agg #[.int .i64 c2, .int .i64 r2, .bool f2, .bool g2]] w fun e w' => e = .returned (.tuple #[.bool (areaG c1 r1 c2 r2), .int .i64 (areaN c1 r1 c2 r2)]) ∧ Below w.heap.size w w') := hide (fun w => area_ref ⟨c1, r1, f1, g1⟩ ⟨c2, r2, f2, g2⟩ w)
          generalize areaG c1 r1 c2 r2 = g at HAR ⊢
          generalize areaN c1 r1 c2 r2 = n at HAR
          go_enter Tryz.func80, Tryz.ntmps80
          go_upto_region 1 with fail
          have P := hide (cells_new w 69 #[.string bk, .string sh, .int .i64 c1, .int .i64 r1, .bool f1, .bool g1, .int .i64 c2, .int .i64 r2, .bool f2, .bool g2, .bool true])
          have HB : Hid (Below w.heap.size w (w.alloc (.cells #[.string bk, .string sh, .int .i64 c1, .int .i64 r1, .bool f1, .bool g1, .int .i64 c2, .int .i64 r2, .bool f2, .bool g2, .bool true] 69))) := hide (below_al _ _)
          generalize hW : w.alloc (.cells #[.string bk, .string sh, .int .i64 c1, .int .i64 r1, .bool f1, .bool g1, .int .i64 c2, .int .i64 r2, .bool f2, .bool g2, .bool true] 69) = W0 at P HB ⊢
          clear hW
          obtain ⟨p_0, p_1, p_2, p_3, p_4, p_5, p_6, p_7, p_8, p_9, p_10⟩ := cells11 (unhide P)
          go_wp2_with fail
          refine (unhide HNS _).mono ?_
          rintro e wk1 ⟨rfl, rfl⟩
          go_wp2_with fail
          refine (unhide HNB _).mono ?_
          rintro e wk2 ⟨rfl, rfl⟩
          go_wp2_with fail
          refine (unhide HAR _).mono ?_
          rintro e wk3 ⟨rfl, bk3⟩
          replace P := hide (cells_nx (unhide P) bk3)
          replace HB := hide (below_nx (unhide HB) bk3)
          clear bk3
          clear p_0 p_1 p_2 p_3 p_4 p_5 p_6 p_7 p_8 p_9 p_10
          go_wp2
          go_ret
          exact ⟨rfl, unhide HB⟩
  · rw [Bool.true_or, Bool.true_and, Bool.not_true, Bool.false_and, Bool.or_false]
    cases eB : (bk.toList == [])
    · rw [Bool.false_and]
      cases nB
      · go_enter Tryz.func80, Tryz.ntmps80
        go_upto_region 1 with fail
        have P := hide (cells_new w 69 #[.string bk, .string sh, .int .i64 c1, .int .i64 r1, .bool f1, .bool g1, .int .i64 c2, .int .i64 r2, .bool f2, .bool g2, .bool wd])
        have HB : Hid (Below w.heap.size w (w.alloc (.cells #[.string bk, .string sh, .int .i64 c1, .int .i64 r1, .bool f1, .bool g1, .int .i64 c2, .int .i64 r2, .bool f2, .bool g2, .bool wd] 69))) := hide (below_al _ _)
        generalize hW : w.alloc (.cells #[.string bk, .string sh, .int .i64 c1, .int .i64 r1, .bool f1, .bool g1, .int .i64 c2, .int .i64 r2, .bool f2, .bool g2, .bool wd] 69) = W0 at P HB ⊢
        clear hW
        obtain ⟨p_0, p_1, p_2, p_3, p_4, p_5, p_6, p_7, p_8, p_9, p_10⟩ := cells11 (unhide P)
        go_wp2_with fail
        refine (unhide HNS _).mono ?_
        rintro e wk1 ⟨rfl, rfl⟩
        go_wp2_with fail
        refine (unhide HNB _).mono ?_
        rintro e wk2 ⟨rfl, rfl⟩
        go_wp2
        go_ret
        exact ⟨rfl, unhide HB⟩
      · go_enter Tryz.func80, Tryz.ntmps80
        go_upto_region 1 with fail
        have P := hide (cells_new w 69 #[.string bk, .string sh, .int .i64 c1, .int .i64 r1, .bool f1, .bool g1, .int .i64 c2, .int .i64 r2, .bool f2, .bool g2, .bool wd])
        have HB : Hid (Below w.heap.size w (w.alloc (.cells #[.string bk, .string sh, .int .i64 c1, .int .i64 r1, .bool f1, .bool g1, .int .i64 c2, .int .i64 r2, .bool f2, .bool g2, .bool wd] 69))) := hide (below_al _ _)
        generalize hW : w.alloc (.cells #[.string bk, .string sh, .int .i64 c1, .int .i64 r1, .bool f1, .bool g1, .int .i64 c2, .int .i64 r2, .bool f2, .bool g2, .bool wd] 69) = W0 at P HB ⊢
        clear hW
        obtain ⟨p_0, p_1, p_2, p_3, p_4, p_5, p_6, p_7, p_8, p_9, p_10⟩ := cells11 (unhide P)
        go_wp2_with fail
        refine (unhide HNS _).mono ?_
        rintro e wk1 ⟨rfl, rfl⟩
        go_wp2_with fail
        refine (unhide HNB _).mono ?_
        rintro e wk2 ⟨rfl, rfl⟩
        go_wp2
        go_ret
        exact ⟨rfl, unhide HB⟩
    · rw [Bool.true_and]
      cases wd
      · rw [if_neg (by simp)]
        have HCE := hide (fun w => cell_ref c1 r1 w)
        by_cases h1 : c2 = 0
        · by_cases h2 : r2 = 0
          · subst h1
            subst h2
            cases f2
            · cases g2
              · have hz : zeroB ⟨0, 0, false, false⟩ = true := rfl
                rw [hz, Bool.true_and]
                clear hz
                generalize cellG c1 r1 = g at HCE ⊢
                go_enter Tryz.func80, Tryz.ntmps80
                go_upto_region 1 with fail
                have P := hide (cells_new w 69 #[.string bk, .string sh, .int .i64 c1, .int .i64 r1, .bool f1, .bool g1, .int .i64 0, .int .i64 0, .bool false, .bool false, .bool false])
                have HB : Hid (Below w.heap.size w (w.alloc (.cells #[.string bk, .string sh, .int .i64 c1, .int .i64 r1, .bool f1, .bool g1, .int .i64 0, .int .i64 0, .bool false, .bool false, .bool false] 69))) := hide (below_al _ _)
                generalize hW : w.alloc (.cells #[.string bk, .string sh, .int .i64 c1, .int .i64 r1, .bool f1, .bool g1, .int .i64 0, .int .i64 0, .bool false, .bool false, .bool false] 69) = W0 at P HB ⊢
                clear hW
                obtain ⟨p_0, p_1, p_2, p_3, p_4, p_5, p_6, p_7, p_8, p_9, p_10⟩ := cells11 (unhide P)
                go_wp2_with fail
                refine (unhide HNS _).mono ?_
                rintro e wk1 ⟨rfl, rfl⟩
                go_wp2_with fail
                refine (unhide HNB _).mono ?_
                rintro e wk2 ⟨rfl, rfl⟩
                go_wp2_with fail
                refine (unhide HCE _).mono ?_
                rintro e wk3 ⟨rfl, rfl⟩
                go_wp2
                go_ret
                exact ⟨rfl, unhide HB⟩
              · have hz : zeroB ⟨0, 0, false, true⟩ = false := rfl
                rw [hz, Bool.false_and]
                clear hz
                go_enter Tryz.func80, Tryz.ntmps80
                go_upto_region 1 with fail
                have P := hide (cells_new w 69 #[.string bk, .string sh, .int .i64 c1, .int .i64 r1, .bool f1, .bool g1, .int .i64 0, .int .i64 0, .bool false, .bool true, .bool false])
                have HB : Hid (Below w.heap.size w (w.alloc (.cells #[.string bk, .string sh, .int .i64 c1, .int .i64 r1, .bool f1, .bool g1, .int .i64 0, .int .i64 0, .bool false, .bool true, .bool false] 69))) := hide (below_al _ _)
                generalize hW : w.alloc (.cells #[.string bk, .string sh, .int .i64 c1, .int .i64 r1, .bool f1, .bool g1, .int .i64 0, .int .i64 0, .bool false, .bool true, .bool false] 69) = W0 at P HB ⊢
                clear hW
                obtain ⟨p_0, p_1, p_2, p_3, p_4, p_5, p_6, p_7, p_8, p_9, p_10⟩ := cells11 (unhide P)
                go_wp2_with fail
                refine (unhide HNS _).mono ?_
                rintro e wk1 ⟨rfl, rfl⟩
                go_wp2_with fail
                refine (unhide HNB _).mono ?_
                rintro e wk2 ⟨rfl, rfl⟩
                go_wp2
                go_ret
                exact ⟨rfl, unhide HB⟩
            · have hz : zeroB ⟨0, 0, true, g2⟩ = false := rfl
              rw [hz, Bool.false_and]
              clear hz
              go_enter Tryz.func80, Tryz.ntmps80
              go_upto_region 1 with fail
              have P := hide (cells_new w 69 #[.string bk, .string sh, .int .i64 c1, .int .i64 r1, .bool f1, .bool g1, .int .i64 0, .int .i64 0, .bool true, .bool g2, .bool false])
              have HB : Hid (Below w.heap.size w (w.alloc (.cells #[.string bk, .string sh, .int .i64 c1, .int .i64 r1, .bool f1, .bool g1, .int .i64 0, .int .i64 0, .bool true, .bool g2, .bool false] 69))) := hide (below_al _ _)
              generalize hW : w.alloc (.cells #[.string bk, .string sh, .int .i64 c1, .int .i64 r1, .bool f1, .bool g1, .int .i64 0, .int .i64 0, .bool true, .bool g2, .bool false] 69) = W0 at P HB ⊢
              clear hW
              obtain ⟨p_0, p_1, p_2, p_3, p_4, p_5, p_6, p_7, p_8, p_9, p_10⟩ := cells11 (unhide P)
              go_wp2_with fail
              refine (unhide HNS _).mono ?_
              rintro e wk1 ⟨rfl, rfl⟩
              go_wp2_with fail
              refine (unhide HNB _).mono ?_
              rintro e wk2 ⟨rfl, rfl⟩
              go_wp2
              go_ret
              exact ⟨rfl, unhide HB⟩
          · have hz : zeroB ⟨c2, r2, f2, g2⟩ = false := by unfold zeroB; simp [h2]
            rw [hz, Bool.false_and]
            have hb : (r2 != 0) = true := by simpa using h2
            clear hz
            subst h1
            go_enter Tryz.func80, Tryz.ntmps80
            go_upto_region 1 with fail
            have P := hide (cells_new w 69 #[.string bk, .string sh, .int .i64 c1, .int .i64 r1, .bool f1, .bool g1, .int .i64 0, .int .i64 r2, .bool f2, .bool g2, .bool false])
            have HB : Hid (Below w.heap.size w (w.alloc (.cells #[.string bk, .string sh, .int .i64 c1, .int .i64 r1, .bool f1, .bool g1, .int .i64 0, .int .i64 r2, .bool f2, .bool g2, .bool false] 69))) := hide (below_al _ _)
            generalize hW : w.alloc (.cells #[.string bk, .string sh, .int .i64 c1, .int .i64 r1, .bool f1, .bool g1, .int .i64 0, .int .i64 r2, .bool f2, .bool g2, .bool false] 69) = W0 at P HB ⊢
            clear hW
            obtain ⟨p_0, p_1, p_2, p_3, p_4, p_5, p_6, p_7, p_8, p_9, p_10⟩ := cells11 (unhide P)
            go_wp2_with fail
            refine (unhide HNS _).mono ?_
            rintro e wk1 ⟨rfl, rfl⟩
            go_wp2_with fail
            refine (unhide HNB _).mono ?_
            rintro e wk2 ⟨rfl, rfl⟩
            go_wp2
            go_ret
            exact ⟨rfl, unhide HB⟩
        · have hz : zeroB ⟨c2, r2, f2, g2⟩ = false := by unfold zeroB; simp [h1]
          rw [hz, Bool.false_and]
          have hb : (c2 != 0) = true := by simpa using h1
          clear hz
          go_enter Tryz.func80, Tryz.ntmps80
          go_upto_region 1 with fail
          have P := hide (cells_new w 69 #[.string bk, .string sh, .int .i64 c1, .int .i64 r1, .bool f1, .bool g1, .int .i64 c2, .int .i64 r2, .bool f2, .bool g2, .bool false])
          have HB : Hid (Below w.heap.size w (w.alloc (.cells #[.string bk, .string sh, .int .i64 c1, .int .i64 r1, .bool f1, .bool g1, .int .i64 c2, .int .i64 r2, .bool f2, .bool g2, .bool false] 69))) := hide (below_al _ _)
          generalize hW : w.alloc (.cells #[.string bk, .string sh, .int .i64 c1, .int .i64 r1, .bool f1, .bool g1, .int .i64 c2, .int .i64 r2, .bool f2, .bool g2, .bool false] 69) = W0 at P HB ⊢
          clear hW
          obtain ⟨p_0, p_1, p_2, p_3, p_4, p_5, p_6, p_7, p_8, p_9, p_10⟩ := cells11 (unhide P)
          go_wp2_with fail
          refine (unhide HNS _).mono ?_
          rintro e wk1 ⟨rfl, rfl⟩
          go_wp2_with fail
          refine (unhide HNB _).mono ?_
          rintro e wk2 ⟨rfl, rfl⟩
          go_wp2
          go_ret
          exact ⟨rfl, unhide HB⟩
      · rw [if_pos rfl]
        have HAR : Hid (∀ w, Calls Tryz.prog 125 #[.agg #[.int .i64 c1, .int .i64 r1, .bool f1, .bool g1], .agg #[.int .i64 c2, .int .i64 r2, .bool f2, .bool g2]] w fun e w' => e = .returned (.tuple #[.bool (areaG c1 r1 c2 r2), .int .i64 (areaN c1 r1 c2 r2)]) ∧ Below w.heap.size w w') := hide (fun w => area_ref ⟨c1, r1, f1, g1⟩ ⟨c2, r2, f2, g2⟩ w)
        generalize areaG c1 r1 c2 r2 = g at HAR ⊢
        generalize areaN c1 r1 c2 r2 = n at HAR
        go_enter Tryz.func80, Tryz.ntmps80
        go_upto_region 1 with fail
        have P := hide (cells_new w 69 #[.string bk, .string sh, .int .i64 c1, .int .i64 r1, .bool f1, .bool g1, .int .i64 c2, .int .i64 r2, .bool f2, .bool g2, .bool true])
        have HB : Hid (Below w.heap.size w (w.alloc (.cells #[.string bk, .string sh, .int .i64 c1, .int .i64 r1, .bool f1, .bool g1, .int .i64 c2, .int .i64 r2, .bool f2, .bool g2, .bool true] 69))) := hide (below_al _ _)
        generalize hW : w.alloc (.cells #[.string bk, .string sh, .int .i64 c1, .int .i64 r1, .bool f1, .bool g1, .int .i64 c2, .int .i64 r2, .bool f2, .bool g2, .bool true] 69) = W0 at P HB ⊢
        clear hW
        obtain ⟨p_0, p_1, p_2, p_3, p_4, p_5, p_6, p_7, p_8, p_9, p_10⟩ := cells11 (unhide P)
        go_wp2_with fail
        refine (unhide HNS _).mono ?_
        rintro e wk1 ⟨rfl, rfl⟩
        go_wp2_with fail
        refine (unhide HNB _).mono ?_
        rintro e wk2 ⟨rfl, rfl⟩
        go_wp2_with fail
        refine (unhide HAR _).mono ?_
        rintro e wk3 ⟨rfl, bk3⟩
        replace P := hide (cells_nx (unhide P) bk3)
        replace HB := hide (below_nx (unhide HB) bk3)
        clear bk3
        clear p_0 p_1 p_2 p_3 p_4 p_5 p_6 p_7 p_8 p_9 p_10
        go_wp2
        go_ret
        exact ⟨rfl, unhide HB⟩
end Go.Proofs.YtloamahbghjjgaaGreatDoor
