/- The contract of the program's number, of layer 3. -/
import Derived.Test.YteaodfeaidjcnaaGreatDoorVpC
import Derived.Laws.BitsAllLaws
import Derived.Deep.CutRange
import Derived.Test.YteaodfeaidjcnaaGreatDoorVpG
import Derived.Test.YteaodfeaidjcnaaGreatDoorVrV
import Derived.Test.YteaodfeaidjcnaaGreatDoorVpJ0
namespace Go.Proofs.YteaodfeaidjcnaaGreatDoor
open Go.RowKit

/-- The first i bytes of a text as a number. -/
def valB (u : ByteArray) : Nat → Nat
  | 0 => 0
  | i + 1 => 256 * valB u i + (byteAt u i).toNat
theorem valB_lt (u : ByteArray) (i : Nat) : valB u i < 256 ^ i := by
  induction i with
  | zero => show 0 < 256 ^ 0; decide
  | succ i ih =>
    unfold valB
    have := (byteAt u i).toNat_lt
    rw [Nat.pow_succ]
    omega
theorem shift_or (m : Nat) (b : UInt8) (hm : m < 72057594037927936) : bits BinOp.or IntKind.u64 (IntKind.u64.wrap ((m : Int) * 256)) (IntKind.u64.wrap (b.toNat : Int)) = ((256 * m + b.toNat : Nat) : Int) := by
  have hb := b.toNat_lt
  rw [IntKind.wrap_u64, IntKind.wrap_u64, show ((m : Int) * 256) % 18446744073709551616 = ((2 ^ 8 * m : Nat) : Int) by omega, show (b.toNat : Int) % 18446744073709551616 = (b.toNat : Int) by omega,
    u64_or_nat _ _ (by omega) (by omega), ← Nat.two_pow_add_eq_or_of_lt (by omega)]
theorem byte_at (u : ByteArray) (i : Nat) (h : i < u.size) : byteAt u i = u[i] := by
  unfold byteAt
  rw [List.getD_eq_getElem?_getD, List.getElem?_eq_getElem (by exact h)]; rfl

set_option maxRecDepth 100000 in
set_option maxHeartbeats 1000000 in
theorem number_val (u : ByteArray) (w : World) (hu : u.size = 8) :
    Calls Tryz.prog 79 #[.string u] w fun e w' => e = .returned (.int .u64 (valB u 8 : Nat)) ∧ w' = w := by
  obtain ⟨V, hV⟩ : ∃ V, valB u 8 = V := ⟨_, rfl⟩
  rw [hV]
  have HV := hide hV
  clear hV
  go_enter Tryz.func79, Tryz.ntmps79
  go_wp2
  go_loopw [7, 3] (fun v n wr => ∃ (i m : Nat), v = .int .i64 (i : Int) ∧ i ≤ 8 ∧ n = .int .u64 (m : Int) ∧ Hid (valB u i = m) ∧ wr = w) (fun v _ _ => (8 - intOf v).toNat)
  case atStart => exact ⟨0, 0, rfl, by omega, rfl, hide rfl, rfl⟩
  case round =>
    obtain ⟨i, m, rfl, hi, rfl, HM, rfl⟩ := hrel
    by_cases h8 : i < 8
    · have hv : m < 72057594037927936 := by
        have h1 := valB_lt u i
        have h2 : 256 ^ i ≤ 256 ^ 7 := Nat.pow_le_pow_right (by omega) (by omega)
        have h3 : (256 : Nat) ^ 7 = 72057594037927936 := by decide
        rw [unhide HM] at h1
        omega
      have hb : i < u.size := by omega
      have HO := hide (shift_or m u[i] hv)
      have HN : Hid (valB u (i + 1) = 256 * m + u[i].toNat) := hide (by
        show 256 * valB u i + (byteAt u i).toNat = _
        rw [unhide HM, byte_at u i hb])
      clear hv
      go_wp2
      refine ⟨⟨i + 1, 256 * m + u[i].toNat, rfl, by omega, ?_, HN, trivial⟩, by simp [intOf]; omega⟩
      rw [unhide HO]
    · have E : Hid (m = V) := hide (by rw [← unhide HM, ← unhide HV, show i = 8 by omega])
      obtain rfl : i = 8 := by omega
      clear h8
      go_wp2
      go_ret
      exact ⟨by rw [unhide E]; rfl, rfl⟩
end Go.Proofs.YteaodfeaidjcnaaGreatDoor

namespace Go.Proofs.YteaodfeaidjcnaaGreatDoor
open Go.RowKit

theorem results_row1t {P : Program} {fn : Func} {p a : Tmp} {ty : TypeId} (h : fn.results = #[.cell p ty, .tmp a]) (tmps : Array Value) (w : World) (g : Nat) (t : TypeId) (cs : Array Value) (fr : Nat × Nat) (d : TypeDesc)
    (hp : tmps.getD p undef = .pointer (some ⟨g, 0, none⟩)) (hg : w.heap[g]? = some (.cells cs t fr))
    (hu : P.underlying ty = some d) (hd : (match d with | .struct _ | .array _ _ => true | _ => false) = true) (hi : (P.info? ty).map (·.size) = some cs.size)
    (x : Value) (hx : tmps.getD a undef = x) :
    (results fn tmps).run P w = .ok (.tuple #[.agg cs, x]) w := by
  have hp' : tmps[p]?.getD undef = .pointer (some ⟨g, 0, none⟩) := by simpa using hp
  have hx' : tmps[a]?.getD undef = x := by simpa using hx
  simp [results, h, hp', hx', asAddr, run_loadVar_row w g t ty cs fr d hg hu hd hi]
/-- What a text begins with whose first byte is c and whose others are r, and how many bytes it has. -/
def firstR (c : Int) (r : ByteArray) : Vl × Int :=
  if c = 0 then (blank0, 1)
  else if r.size = 0 then (blank0, 0)
  else if c = 1 then (if 8 ≤ r.size then (⟨1, wrap64 (valB (r.extract 0 8) 8 : Nat), noText, false, 0⟩, 9) else (blank0, 0))
  else if c = 2 then (if 1 + (byteAt r 0).toNat ≤ r.size then (⟨2, 0, r.extract 1 (1 + (byteAt r 0).toNat), false, 0⟩, 1 + (1 + ((byteAt r 0).toNat : Int))) else (blank0, 0))
  else if c = 3 then (if (byteAt r 0).toNat ≤ 1 then (⟨3, 0, noText, ((byteAt r 0).toNat : Int) == 1, 0⟩, 2) else (blank0, 0))
  else if c = 4 then (⟨4, 0, noText, false, ((byteAt r 0).toNat : Int)⟩, 2)
  else (blank0, 0)
def firstV (t : ByteArray) : Vl × Int := if t.size = 0 then (blank0, 0) else firstR (gB t 0) (t.extract 1 t.size)
def FirstPost (r : Vl × Int) (w : World) (e : Ending) (w' : World) : Prop := e = .returned (.tuple #[.agg r.1.cells, .int .i64 r.2]) ∧ Below w.heap.size w w'
theorem heap_new_drew (w : World) (o : Obj) : (w.alloc o).drew.heap[w.heap.size]? = some o := heap_alloc_new w o
theorem byte_wrap2 (c : UInt8) : wrap64 (c.toNat : Int) = (c.toNat : Int) := by
  have := c.toNat_lt
  unfold wrap64; omega
theorem list_nil (t : ByteArray) (h : t.size = 0) : (t.toList == []) = true := by
  rw [ByteArray.toList_eq, List.eq_nil_of_length_eq_zero (show t.data.toList.length = 0 from h)]; rfl
theorem list_cons (t : ByteArray) (h : t.size ≠ 0) : (t.toList == []) = false := by
  rw [ByteArray.toList_eq, beq_eq_false_iff_ne]
  intro e
  exact h (by show t.data.toList.length = 0; rw [e]; rfl)
theorem first_post {R Z : Vl × Int} {w w' : World} {cs : Array Value} {n : Int} (h : R = Z) (h1 : Z.1.cells = cs) (h2 : Z.2 = n) (hb : Below w.heap.size w w') : FirstPost R w (.returned (.tuple #[.agg cs, .int .i64 n])) w' := by
  subst h h1 h2; exact ⟨rfl, hb⟩

set_option maxRecDepth 100000 in
set_option maxHeartbeats 2000000 in
theorem first_val (t : ByteArray) (w : World) (hs : t.size ≤ 1000000) :
    Calls Tryz.prog 47 #[.string t] w fun e w' => FirstPost (firstV t) w e w' := by
  obtain ⟨R, hR⟩ : ∃ R, firstV t = R := ⟨_, rfl⟩
  rw [hR]
  unfold firstV at hR
  by_cases h0 : t.size = 0
  · rw [if_pos h0] at hR
    have E := hide hR.symm
    have e0 := list_nil t h0
    clear hR h0 hs
    go_enter Tryz.func47, Tryz.ntmps47
    go_wp2
    refine bodyPost_ret (results_row1t rfl _ _ _ _ _ _ _ rfl (heap_alloc_new _ _) Tryz.underlying28 rfl (by exact infoVal) _ rfl) rfl ?_
    exact first_post (unhide E) rfl rfl (below_al _ _)
  · rw [if_neg h0] at hR
    have HR := hide hR
    have e0 := list_cons t h0
    have h1 : 0 < t.size := by omega
    have h1i : (0 : Int) < (t.size : Int) := by omega
    have h2i : (1 : Int) ≤ (t.size : Int) := by omega
    have HZ : Hid ((t.extract 1 t.size).size ≤ 1000000) := hide (by rw [ByteArray.size_extract]; omega)
    have HC : Hid (gB t 0 = ((t[0]'h1).toNat : Int)) := hide (by unfold gB; rw [byte_at t 0 h1])
    clear hR h0
    go_enter Tryz.func47, Tryz.ntmps47
    go_upto_region 3 with fail
    go_cut [4, 5] from 10 to 14 (fun v4 v5 wx => v4 = .int .i64 ((t[0]'h1).toNat : Int) ∧ v5 = .string (t.extract 1 t.size) ∧ wx = (w.alloc (.cells #[.int .i64 0, .int .i64 0, .string ⟨#[]⟩, .bool false, .int .i64 0] 28)).drew)
    case first =>
      go_region
      all_goals (try go_wp2_with fail)
      all_goals go_meet
      all_goals exact ⟨by first | rfl | rw [byte_wrap2], rfl, rfl⟩
    case rest =>
      obtain ⟨rfl, rfl, rfl⟩ := hcut
      rw [unhide HC] at HR
      clear HC e0 h1i h2i hs
      generalize ((t[0]'h1).toNat : Int) = c at HR ⊢
      generalize t.extract 1 t.size = r at HR HZ ⊢
      clear h1
      replace HR := hide (show firstR c r = R from unhide HR)
      have hr := unhide HR
      unfold firstR at hr
      by_cases c0 : c = 0
      · rw [if_pos c0] at hr
        subst c0
        have E := hide hr.symm
        clear hr HR
        go_wp2
        refine bodyPost_ret (results_row1t rfl _ _ _ _ _ _ _ rfl (heap_new_drew _ _) Tryz.underlying28 rfl (by exact infoVal) _ rfl) rfl ?_
        exact first_post (unhide E) rfl rfl ((below_al _ _).drew)
      · rw [if_neg c0] at hr
        have k0 : (c == 0) = false := by rw [beq_eq_false_iff_ne]; exact c0
        by_cases hz : r.size = 0
        · rw [if_pos hz] at hr
          have E := hide hr.symm
          have e1 := list_nil r hz
          clear hr HR c0 hz
          go_wp2
          refine bodyPost_ret (results_row1t rfl _ _ _ _ _ _ _ rfl (heap_new_drew _ _) Tryz.underlying28 rfl (by exact infoVal) _ rfl) rfl ?_
          exact first_post (unhide E) rfl rfl ((below_al _ _).drew)
        · rw [if_neg hz] at hr
          have e1 := list_cons r hz
          have p1 : 0 < r.size := by omega
          have p2 : (0 : Int) < (r.size : Int) := by omega
          have hb := byte_at r 0 p1
          rw [hb] at hr
          clear hb
          have q255 := r[0].toNat_lt
          obtain ⟨q, hq⟩ : ∃ q : Nat, r[0].toNat = q := ⟨_, rfl⟩
          rw [hq] at hr q255
          by_cases c1 : c = 1
          · rw [if_pos c1] at hr
            subst c1
            by_cases h8 : 8 ≤ r.size
            · rw [if_pos h8] at hr
              have E := hide hr.symm
              have h8i : (8 : Int) ≤ (r.size : Int) := by omega
              have HN := hide (fun w => number_val (r.extract 0 8) w (by rw [ByteArray.size_extract]; omega))
              generalize valB (r.extract 0 8) 8 = V at E HN
              clear hr HR c0 hz hq q255
              go_wp2_with fail
              refine (unhide HN _).mono ?_
              rintro e w1 ⟨rfl, rfl⟩
              go_wp2
              refine bodyPost_ret (results_row1t rfl _ _ _ _ _ _ _ rfl (heap_new_drew _ _) Tryz.underlying28 rfl (by exact infoVal) _ rfl) rfl ?_
              exact first_post (unhide E) rfl rfl ((below_al _ _).drew)
            · rw [if_neg h8] at hr
              have E := hide hr.symm
              have h8i : (r.size : Int) < 8 := by omega
              clear hr HR c0 hz hq q255 h8
              go_wp2
              refine bodyPost_ret (results_row1t rfl _ _ _ _ _ _ _ rfl (heap_new_drew _ _) Tryz.underlying28 rfl (by exact infoVal) _ rfl) rfl ?_
              exact first_post (unhide E) rfl rfl ((below_al _ _).drew)
          · rw [if_neg c1] at hr
            have k1 : (c == 1) = false := by rw [beq_eq_false_iff_ne]; exact c1
            by_cases c2 : c = 2
            · rw [if_pos c2] at hr
              subst c2
              by_cases hl : 1 + q ≤ r.size
              · rw [if_pos hl] at hr
                have E := hide hr.symm
                have hli : (1 : Int) + (q : Int) ≤ (r.size : Int) := by omega
                have hx : ((1 : Int) + (q : Int)).toNat = 1 + q := by omega
                clear hr HR c0 c1 hz
                go_wp2
                refine bodyPost_ret (results_row1t rfl _ _ _ _ _ _ _ rfl (heap_new_drew _ _) Tryz.underlying28 rfl (by exact infoVal) _ rfl) rfl ?_
                exact first_post (unhide E) rfl rfl ((below_al _ _).drew)
              · rw [if_neg hl] at hr
                have E := hide hr.symm
                have hli : (r.size : Int) < (1 : Int) + (q : Int) := by omega
                clear hr HR c0 c1 hz hl
                go_wp2
                refine bodyPost_ret (results_row1t rfl _ _ _ _ _ _ _ rfl (heap_new_drew _ _) Tryz.underlying28 rfl (by exact infoVal) _ rfl) rfl ?_
                exact first_post (unhide E) rfl rfl ((below_al _ _).drew)
            · rw [if_neg c2] at hr
              have k2 : (c == 2) = false := by rw [beq_eq_false_iff_ne]; exact c2
              by_cases c3 : c = 3
              · rw [if_pos c3] at hr
                subst c3
                by_cases hl : q ≤ 1
                · rw [if_pos hl] at hr
                  have E := hide hr.symm
                  have hli : (q : Int) ≤ 1 := by omega
                  have HC := hide (fun w => b_val ((q : Int) == 1) w)
                  unfold vB Vl.cells at HC
                  obtain ⟨bq, hbq⟩ : ∃ b, ((q : Int) == 1) = b := ⟨_, rfl⟩
                  rw [hbq] at E HC
                  clear hr HR c0 c1 c2 hz hl
                  go_wp2_with fail
                  refine (unhide HC _).mono ?_
                  rintro e w1 ⟨rfl, b1⟩
                  have HF := hide (five_below (five_drew (five_new w 28 _ _ _ _ _)) b1 (by show _ < (w.heap.push _).size; simp))
                  have HB := hide (below_nx (below_al w _).drew b1)
                  clear b1
                  have hf := unhide HF
                  obtain ⟨x0, c0⟩ := five_c hf 0 (by omega)
                  obtain ⟨x1, c1⟩ := five_c hf 1 (by omega)
                  obtain ⟨x2, c2⟩ := five_c hf 2 (by omega)
                  obtain ⟨x3, c3⟩ := five_c hf 3 (by omega)
                  obtain ⟨x4, c4⟩ := five_c hf 4 (by omega)
                  have f0 := five_f hf 0
                  have f1 := five_f hf 1
                  have f2 := five_f hf 2
                  have f3 := five_f hf 3
                  have f4 := five_f hf 4
                  clear hf
                  go_wp2
                  refine bodyPost_ret (results_row1t rfl _ _ _ _ _ _ _ rfl (five_set (unhide HF) _ _ _ _ _).1 Tryz.underlying28 rfl (by exact infoVal) _ rfl) rfl ?_
                  exact first_post (unhide E) rfl rfl (below_five (unhide HB) (Nat.le_refl _) _ _ _ _ _)
                · rw [if_neg hl] at hr
                  have E := hide hr.symm
                  have hli : 1 < (q : Int) := by omega
                  clear hr HR c0 c1 c2 hz hl
                  go_wp2
                  refine bodyPost_ret (results_row1t rfl _ _ _ _ _ _ _ rfl (heap_new_drew _ _) Tryz.underlying28 rfl (by exact infoVal) _ rfl) rfl ?_
                  exact first_post (unhide E) rfl rfl ((below_al _ _).drew)
              · rw [if_neg c3] at hr
                have k3 : (c == 3) = false := by rw [beq_eq_false_iff_ne]; exact c3
                by_cases c4 : c = 4
                · rw [if_pos c4] at hr
                  subst c4
                  have E := hide hr.symm
                  clear hr HR c0 c1 c2 c3 hz
                  go_wp2
                  refine bodyPost_ret (results_row1t rfl _ _ _ _ _ _ _ rfl (heap_new_drew _ _) Tryz.underlying28 rfl (by exact infoVal) _ rfl) rfl ?_
                  exact first_post (unhide E) rfl rfl ((below_al _ _).drew)
                · rw [if_neg c4] at hr
                  have k4 : (c == 4) = false := by rw [beq_eq_false_iff_ne]; exact c4
                  have E := hide hr.symm
                  clear hr HR c0 c1 c2 c3 c4 hz hq
                  go_wp2
                  refine bodyPost_ret (results_row1t rfl _ _ _ _ _ _ _ rfl (heap_new_drew _ _) Tryz.underlying28 rfl (by exact infoVal) _ rfl) rfl ?_
                  exact first_post (unhide E) rfl rfl ((below_al _ _).drew)
end Go.Proofs.YteaodfeaidjcnaaGreatDoor

namespace Go.Proofs.YteaodfeaidjcnaaGreatDoor
open Go.RowKit

/-- What the program tells of a text from place k on. -/
def getF (t : ByteArray) (k : Int) : Vl × Int × Int := if (firstV t).2 = 0 then (blank0, 0, 4) else if vGood (firstV t).1 = true then ((firstV t).1, k + (firstV t).2, 0) else (blank0, 0, 4)
def getP (s : ByteArray) (k : Int) : Vl × Int × Int := if k < 0 ∨ (s.size : Int) < k then (blank0, 0, 3) else getF (s.extract k.toNat s.size) k
theorem get_post {R X : Vl × Int × Int} {w w' : World} {cs : Array Value} {n e : Int} (h : R = X) (h1 : X.1.cells = cs) (h2 : X.2.1 = n) (h3 : X.2.2 = e) (hb : Below w.heap.size w w') : GetPost R w (.returned (.tuple #[.agg cs, .int .i64 n, .int .i64 e])) w' := by
  subst h h1 h2 h3; exact ⟨rfl, hb⟩
theorem first_in (t : ByteArray) : 0 ≤ (firstV t).2 ∧ (firstV t).2 ≤ 300 := by
  unfold firstV firstR
  have := (byteAt (t.extract 1 t.size) 0).toNat_lt
  repeat' split
  all_goals (simp only []; omega)
theorem ext_size (t : ByteArray) (a b : Nat) : (t.extract a b).size ≤ t.size := by rw [ByteArray.size_extract]; omega
theorem firstR_text (c : Int) (r : ByteArray) : (firstR c r).1.text.size ≤ r.size := by
  have z : noText.size = 0 := rfl
  unfold firstR
  repeat' split
  all_goals first
    | (show noText.size ≤ _; rw [z]; exact Nat.zero_le _)
    | (show (r.extract _ _).size ≤ _; exact ext_size _ _ _)
theorem first_text (t : ByteArray) : (firstV t).1.text.size ≤ t.size := by
  unfold firstV
  split
  · show noText.size ≤ _
    exact Nat.zero_le _
  · exact Nat.le_trans (firstR_text _ _) (ext_size _ _ _)

set_option maxRecDepth 100000 in
set_option maxHeartbeats 2000000 in
theorem get_outp (s : ByteArray) (k : Int) (w : World) (h : k < 0 ∨ (s.size : Int) < k) :
    Calls Tryz.prog 20 #[.string s, .int .i64 k] w fun e w' => GetPost (blank0, 0, 3) w e w' := by
  by_cases h0 : k < 0
  · clear h
    have d1 : decide (k < 0) = true := decide_eq_true h0
    clear h0
    go_enter Tryz.func20, Tryz.ntmps20
    go_wp2
    refine bodyPost_ret (results_row3 rfl _ _ _ _ _ _ _ rfl (heap_alloc_new _ _) Tryz.underlying28 rfl (by exact infoVal) _ _ rfl rfl) rfl ?_
    exact ⟨rfl, below_al _ _⟩
  · have d1 : decide (k < 0) = false := decide_eq_false h0
    have d2 : decide ((s.size : Int) < k) = true := decide_eq_true (by omega)
    clear h h0
    go_enter Tryz.func20, Tryz.ntmps20
    go_wp2
    refine bodyPost_ret (results_row3 rfl _ _ _ _ _ _ _ rfl (heap_alloc_new _ _) Tryz.underlying28 rfl (by exact infoVal) _ _ rfl rfl) rfl ?_
    exact ⟨rfl, below_al _ _⟩

set_option maxRecDepth 100000 in
set_option maxHeartbeats 4000000 in
theorem get_inp (s : ByteArray) (k : Nat) (w : World) (hs : s.size ≤ 100000) (hk : k ≤ s.size) :
    Calls Tryz.prog 20 #[.string s, .int .i64 (k : Int)] w fun e w' => GetPost (getF (s.extract k s.size) k) w e w' := by
  have d1 : decide ((k : Int) < 0) = false := decide_eq_false (by omega)
  have d2 : decide ((s.size : Int) < (k : Int)) = false := decide_eq_false (by omega)
  have hki : (k : Int) ≤ (s.size : Int) := by omega
  have hk0 : (0 : Int) ≤ (k : Int) := by omega
  have hsi : (s.size : Int) ≤ 100000 := by omega
  have HF := hide (fun w => first_val (s.extract k s.size) w (by have := ext_size s k s.size; omega))
  have HN := hide (first_in (s.extract k s.size))
  have HG := hide (fun w => good3_val (firstV (s.extract k s.size)).1 w (by have := first_text (s.extract k s.size); have := ext_size s k s.size; omega))
  obtain ⟨R, hR⟩ : ∃ R, getF (s.extract k s.size) k = R := ⟨_, rfl⟩
  rw [hR]
  unfold getF at hR
  obtain ⟨r, hr⟩ : ∃ r, firstV (s.extract k s.size) = r := ⟨_, rfl⟩
  rw [hr] at HF HN HG hR
  clear hr
  obtain ⟨v, n⟩ := r
  simp only [] at HN HG hR
  have HR := hide hR
  clear hR
  unfold Vl.cells at HG
  go_enter Tryz.func20, Tryz.ntmps20
  go_wp2_with fail
  refine (unhide HF _).mono ?_
  rintro e w1 ⟨rfl, b1⟩
  simp only []
  unfold Vl.cells
  have HO := hide (five_below (five_new w 28 (.int .i64 0) (.int .i64 0) (.string ⟨#[]⟩) (.bool false) (.int .i64 0)) b1 (by simp))
  have HB := hide (below_nx (below_al w (.cells #[.int .i64 0, .int .i64 0, .string ⟨#[]⟩, .bool false, .int .i64 0] 28)) b1)
  clear b1 HF
  have HV := hide (five_new w1 28 (.int .i64 v.kind) (.int .i64 v.num) (.string v.text) (.bool v.tr) (.int .i64 v.fail))
  have bb := below_al w1 (.cells #[.int .i64 v.kind, .int .i64 v.num, .string v.text, .bool v.tr, .int .i64 v.fail] 28)
  have HL := hide (five_lt (unhide HO))
  replace HO := hide (five_below (unhide HO) bb (five_lt (unhide HO)))
  replace HB := hide (below_nx (unhide HB) bb)
  clear bb
  go_upto_region 4 with fail
  generalize hW : w1.alloc (.cells #[.int .i64 v.kind, .int .i64 v.num, .string v.text, .bool v.tr, .int .i64 v.fail] 28) = W1 at HO HV HB ⊢
  clear hW
  clear d1 d2
  cases n0 : (n == 0)
  · have hr := unhide HR
    rw [if_neg (by rw [beq_eq_false_iff_ne] at n0; exact n0)] at hr
    replace HR := hide hr
    clear hr
    obtain ⟨v0, v1, v2, v3, v4⟩ := five_cells (unhide HV)
    go_wp2_with fail
    refine (unhide HG _).mono ?_
    rintro e w2 ⟨rfl, b2⟩
    replace HO := hide (five_below (unhide HO) b2 (five_lt (unhide HO)))
    replace HV := hide (five_below (unhide HV) b2 (five_lt (unhide HV)))
    replace HB := hide (below_nx (unhide HB) b2)
    clear b2 v0 v1 v2 v3 v4
    cases hg : vGood v
    · rw [hg] at HR
      have hf := unhide HO
      obtain ⟨x0, c0⟩ := five_c hf 0 (by omega)
      obtain ⟨x1, c1⟩ := five_c hf 1 (by omega)
      obtain ⟨x2, c2⟩ := five_c hf 2 (by omega)
      obtain ⟨x3, c3⟩ := five_c hf 3 (by omega)
      obtain ⟨x4, c4⟩ := five_c hf 4 (by omega)
      have f0 := five_f hf 0
      have f1 := five_f hf 1
      have f2 := five_f hf 2
      have f3 := five_f hf 3
      have f4 := five_f hf 4
      clear hf
      go_wp2
      refine bodyPost_ret (results_row3 rfl _ _ _ _ _ _ _ rfl (five_set (unhide HO) _ _ _ _ _).1 Tryz.underlying28 rfl (by exact infoVal) _ _ rfl rfl) rfl ?_
      exact get_post (unhide HR).symm rfl rfl rfl (below_five (unhide HB) (Nat.le_refl _) _ _ _ _ _)
    · rw [hg, if_pos rfl] at HR
      have hf := unhide HO
      obtain ⟨x0, c0⟩ := five_c hf 0 (by omega)
      obtain ⟨x1, c1⟩ := five_c hf 1 (by omega)
      obtain ⟨x2, c2⟩ := five_c hf 2 (by omega)
      obtain ⟨x3, c3⟩ := five_c hf 3 (by omega)
      obtain ⟨x4, c4⟩ := five_c hf 4 (by omega)
      have f0 := five_f hf 0
      have f1 := five_f hf 1
      have f2 := five_f hf 2
      have f3 := five_f hf 3
      have f4 := five_f hf 4
      clear hf
      obtain ⟨v0, v1, v2, v3, v4⟩ := five_cells (unhide HV)
      obtain ⟨hn0, hn1⟩ := unhide HN
      go_wp2
      refine bodyPost_ret (results_row3 rfl _ _ _ _ _ _ _ rfl (five_set (unhide HO) _ _ _ _ _).1 Tryz.underlying28 rfl (by exact infoVal) _ _ rfl rfl) rfl ?_
      exact get_post (unhide HR).symm rfl rfl rfl (below_five (unhide HB) (Nat.le_refl _) _ _ _ _ _)
  · have hr := unhide HR
    rw [if_pos (by rw [beq_iff_eq] at n0; exact n0)] at hr
    replace HR := hide hr
    clear hr
    have hf := unhide HO
    obtain ⟨x0, c0⟩ := five_c hf 0 (by omega)
    obtain ⟨x1, c1⟩ := five_c hf 1 (by omega)
    obtain ⟨x2, c2⟩ := five_c hf 2 (by omega)
    obtain ⟨x3, c3⟩ := five_c hf 3 (by omega)
    obtain ⟨x4, c4⟩ := five_c hf 4 (by omega)
    have f0 := five_f hf 0
    have f1 := five_f hf 1
    have f2 := five_f hf 2
    have f3 := five_f hf 3
    have f4 := five_f hf 4
    clear hf
    go_wp2
    refine bodyPost_ret (results_row3 rfl _ _ _ _ _ _ _ rfl (five_set (unhide HO) _ _ _ _ _).1 Tryz.underlying28 rfl (by exact infoVal) _ _ rfl rfl) rfl ?_
    exact get_post (unhide HR).symm rfl rfl rfl (below_five (unhide HB) (Nat.le_refl _) _ _ _ _ _)

theorem get_val (s : ByteArray) (k : Int) (w : World) (hs : s.size ≤ 100000) :
    Calls Tryz.prog 20 #[.string s, .int .i64 k] w fun e w' => GetPost (getP s k) w e w' := by
  unfold getP
  by_cases h : k < 0 ∨ (s.size : Int) < k
  · rw [if_pos h]; exact get_outp s k w h
  · rw [if_neg h]
    obtain ⟨n, rfl⟩ : ∃ n : Nat, k = n := ⟨k.toNat, by omega⟩
    exact get_inp s n w hs (by omega)
end Go.Proofs.YteaodfeaidjcnaaGreatDoor
