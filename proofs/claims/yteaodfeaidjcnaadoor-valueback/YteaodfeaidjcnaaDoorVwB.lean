/- The walk of ValueBack. -/
import Derived.Deep.RegionHeld3
import Derived.Deep.CutRange
import Derived.Deep.QuietTactic
import Derived.BigQuiet
import Derived.WalkSmall
import Derived.Test.YteaodfeaidjcnaaDoorVpV
import Derived.Test.YteaodfeaidjcnaaDoorVwB0
namespace Go.Proofs.YteaodfeaidjcnaaDoor
open Go.RowKit

theorem cut50 (s : ByteArray) : (s.extract 0 (min (s.size : Int) 50).toNat).size ≤ 50 := by
  rw [ByteArray.size_extract]; omega
theorem sum_wrap (a b : Nat) (ha : a ≤ 50) (hb : b ≤ 300) : IntKind.i64.wrap ((a : Int) + (b : Int)) = (a : Int) + (b : Int) := IntWalk.i64_in _ (by omega)
theorem show_small (X : Vl) (hg : vGood X = true) : (showV X).size ≤ 1000 := by
  rcases good_form X hg with rfl | ⟨n, hn, rfl⟩ | ⟨s, hs, rfl⟩ | ⟨b, rfl⟩ | ⟨f, h1, h8, rfl⟩
  · show noText.size ≤ 1000; decide
  · have := text_len n
    show (textL n).length ≤ 1000
    omega
  · show s.size ≤ 1000; omega
  · cases b <;> decide
  · have hf : f = 1 ∨ f = 2 ∨ f = 3 ∨ f = 4 ∨ f = 5 ∨ f = 6 ∨ f = 7 ∨ f = 8 := by omega
    rcases hf with rfl | rfl | rfl | rfl | rfl | rfl | rfl | rfl <;> decide
theorem put_small (X : Vl) (hg : vGood X = true) : (putL X).length ≤ 300 := by
  rcases good_form X hg with rfl | ⟨n, hn, rfl⟩ | ⟨s, hs, rfl⟩ | ⟨b, rfl⟩ | ⟨f, h1, h8, rfl⟩
  · decide
  · show (be8 (u64N n)).length + 1 ≤ 300
    show 8 + 1 ≤ 300
    decide
  · show s.data.toList.length + 1 + 1 ≤ 300
    have : s.data.toList.length = s.size := rfl
    omega
  · cases b <;> decide
  · show 0 + 1 + 1 ≤ 300
    decide

set_option maxRecDepth 100000 in
set_option maxHeartbeats 8000000 in
theorem back_law (x : Vl) (a b : ByteArray) (w : World) (hx : x.text.size ≤ maxLen) (_ha : a.size ≤ maxLen) (_hb : b.size ≤ maxLen) (he : Env3 w) :
    Calls Tryd.prog 5 #[.agg x.cells, .string a, .string b] w fun e w' => e = .returned (.bool true) ∧ Below w.heap.size w w' := by
  have HE := hide he
  clear he
  have HVX := hide (fun w => values_law x w hx)
  clear hx
  have SX : Hid ((cutV x).text.size ≤ 300) := hide (cutT_size x.text)
  obtain ⟨X, eX⟩ : ∃ X, cutV x = X := ⟨_, rfl⟩
  rw [eX] at HVX SX
  clear eX
  have HWK := hide wakes_val
  have HG := hide (fun w => good3_val X w (by have := unhide SX; omega))
  have HPU := hide (fun w => put_val X w (by have := unhide SX; omega))
  unfold Vl.cells at HVX HG HPU ⊢
  go_enter Tryd.func5, Tryd.ntmps5
  go_upto_region 1 with fail
  have PX := hide (five_new w 23 (.int .i64 x.kind) (.int .i64 x.num) (.string x.text) (.bool x.tr) (.int .i64 x.fail))
  have HB := hide (below_al w (.cells #[.int .i64 x.kind, .int .i64 x.num, .string x.text, .bool x.tr, .int .i64 x.fail] 23))
  generalize hW : w.alloc (.cells #[.int .i64 x.kind, .int .i64 x.num, .string x.text, .bool x.tr, .int .i64 x.fail] 23) = W0 at PX HB ⊢
  clear hW
  obtain ⟨px_0, px_1, px_2, px_3, px_4⟩ := five_cells (unhide PX)
  go_wp2_with fail
  refine (unhide HVX _).mono ?_
  rintro e w1 ⟨rfl, b1⟩
  replace PX := hide (five_below (unhide PX) b1 (five_lt (unhide PX)))
  replace HB := hide (below_nx (unhide HB) b1)
  clear b1 px_0 px_1 px_2 px_3 px_4
  have A := hide (five_old w1 28 (.int .i64 X.kind) (.int .i64 X.num) (.string X.text) (.bool X.tr) (.int .i64 X.fail) (.cells #[.int .i64 X.kind, .int .i64 X.num, .string X.text, .bool X.tr, .int .i64 X.fail] 29))
  have RA := hide (five_new2 w1 (.cells #[.int .i64 X.kind, .int .i64 X.num, .string X.text, .bool X.tr, .int .i64 X.fail] 28) 29 (.int .i64 X.kind) (.int .i64 X.num) (.string X.text) (.bool X.tr) (.int .i64 X.fail))
  have bb := below_al2 w1 (.cells #[.int .i64 X.kind, .int .i64 X.num, .string X.text, .bool X.tr, .int .i64 X.fail] 28) (.cells #[.int .i64 X.kind, .int .i64 X.num, .string X.text, .bool X.tr, .int .i64 X.fail] 29)
  replace PX := hide (five_below (unhide PX) bb (five_lt (unhide PX)))
  replace HB := hide (below_nx (unhide HB) bb)
  clear bb
  go_upto_region 2 with fail
  generalize hW : (w1.alloc (.cells #[.int .i64 X.kind, .int .i64 X.num, .string X.text, .bool X.tr, .int .i64 X.fail] 28)).alloc (.cells #[.int .i64 X.kind, .int .i64 X.num, .string X.text, .bool X.tr, .int .i64 X.fail] 29) = W1 at A RA HB PX ⊢
  clear hW
  clear PX
  clear RA
  go_cut [1, 2] from 19 to 28 (fun v1 v2 wx => v1 = .string (a.extract 0 (min (a.size : Int) 50).toNat) ∧ v2 = .string (b.extract 0 (min (b.size : Int) 50).toNat) ∧ wx = W1.drew)
  case first =>
    go_region
    all_goals (try go_wp2_with fail)
    all_goals go_meet
    all_goals exact ⟨rfl, rfl, rfl⟩
  case rest =>
    obtain ⟨rfl, rfl, rfl⟩ := hcut
    have ZA := hide (cut50 a)
    have ZB := hide (cut50 b)
    clear _ha _hb HVX
    generalize a.extract 0 (min (a.size : Int) 50).toNat = p at ZA ⊢
    generalize b.extract 0 (min (b.size : Int) 50).toNat = q at ZB ⊢
    replace A := hide (five_drew (unhide A))
    replace HB := hide (unhide HB).drew
    generalize W1.drew = W2 at A HB ⊢
    cases hg : vGood X
    · have hp : putV X = (noText, 4) := by unfold putV; rw [hg]; rfl
      rw [hp] at HPU
      rw [hg] at HG
      clear hp hg
      simp only [] at HPU
      obtain ⟨a_0, a_1, a_2, a_3, a_4⟩ := five_cells (unhide A)
      go_wp2_with fail
      refine (unhide HPU _).mono ?_
      rintro e w21 ⟨rfl, b21⟩
      replace A := hide (five_below (unhide A) b21 (five_lt (unhide A)))
      replace HB := hide (below_nx (unhide HB) b21)
      clear b21 a_0 a_1 a_2 a_3 a_4
      go_wp2_with fail
      refine (unhide HWK _ ((unhide HE).below (unhide HB))).mono ?_
      rintro e w22 ⟨rfl, b22⟩
      replace A := hide (five_below (unhide A) b22 (five_lt (unhide A)))
      replace HB := hide (below_nx (unhide HB) b22)
      clear b22
      go_wp2_with fail
      refine (unhide HWK _ ((unhide HE).below (unhide HB))).mono ?_
      rintro e w23 ⟨rfl, b23⟩
      replace A := hide (five_below (unhide A) b23 (five_lt (unhide A)))
      replace HB := hide (below_nx (unhide HB) b23)
      clear b23
      obtain ⟨a_0, a_1, a_2, a_3, a_4⟩ := five_cells (unhide A)
      go_wp2_with fail
      refine (unhide HG _).mono ?_
      rintro e w24 ⟨rfl, b24⟩
      replace A := hide (five_below (unhide A) b24 (five_lt (unhide A)))
      replace HB := hide (below_nx (unhide HB) b24)
      clear b24 a_0 a_1 a_2 a_3 a_4
      go_wp2
      go_ret
      exact ⟨rfl, unhide HB⟩
    · have hp : putV X = (⟨(putL X).toArray⟩, 0) := by unfold putV; rw [hg]; rfl
      rw [hp] at HPU
      simp only [] at HPU
      have HT : Hid (∀ w : World, Calls Tryd.prog 29 #[.string (p ++ ⟨(putL X).toArray⟩ ++ q), .int .i64 (p.size : Int)] w fun e w' => e = .returned (.tuple #[.agg X.cells, .int .i64 ((p.size : Int) + ((⟨(putL X).toArray⟩ : ByteArray).size : Int)), .int .i64 0]) ∧ Below w.heap.size w w') := hide (fun w => by
        have h := get_val (p ++ ⟨(putL X).toArray⟩ ++ q) (p.size : Int) w (by
          show (p ++ ⟨(putL X).toArray⟩ ++ q).data.toList.length ≤ _
          rw [app_list, app_list, List.length_append, List.length_append]
          have h1 := unhide ZA
          have h2 := unhide ZB
          have h3 := put_small X hg
          have e1 : p.data.toList.length = p.size := rfl
          have e2 : q.data.toList.length = q.size := rfl
          have e3 : (⟨(putL X).toArray⟩ : ByteArray).data.toList.length = (putL X).length := rfl
          omega)
        rw [get_put X hg p q] at h
        exact h)
      have ZS : Hid ((⟨(putL X).toArray⟩ : ByteArray).size ≤ 300) := hide (put_small X hg)
      have HSH := hide (fun w (he : Env3 w) => show_val X w (by have := unhide SX; omega) he)
      rw [sound_of X hg] at HSH
      have HRD : Hid (X.kind ≠ 2 → ∀ w, Env3 w → Calls Tryd.prog 30 #[.string (showV X)] w fun e w' => e = .returned (.agg X.cells) ∧ Below w.heap.size w w') := hide (fun hk w he => by
        have h := read_val (showV X) w (by have := show_small X hg; omega) he
        rw [read_show X hg hk] at h
        exact h)
      generalize (⟨(putL X).toArray⟩ : ByteArray) = S at HPU HT ZS
      generalize showV X = sh at HSH HRD
      clear hp hg HG
      unfold Vl.cells at HT HSH HRD
      have hq1 : ∀ w, (binOp .eql 28 (.agg #[.int .i64 X.kind, .int .i64 X.num, .string X.text, .bool X.tr, .int .i64 X.fail]) (.agg #[.int .i64 X.kind, .int .i64 X.num, .string X.text, .bool X.tr, .int .i64 X.fail])).run Tryd.prog w = .ok (.bool true) w := fun w => by rw [vl_eq, vEq_self]
      obtain ⟨a_0, a_1, a_2, a_3, a_4⟩ := five_cells (unhide A)
      go_wp2_with fail
      refine (unhide HPU _).mono ?_
      rintro e w21 ⟨rfl, b21⟩
      replace A := hide (five_below (unhide A) b21 (five_lt (unhide A)))
      replace HB := hide (below_nx (unhide HB) b21)
      clear b21 a_0 a_1 a_2 a_3 a_4
      go_wp2_with fail
      refine (unhide HWK _ ((unhide HE).below (unhide HB))).mono ?_
      rintro e w22 ⟨rfl, b22⟩
      replace A := hide (five_below (unhide A) b22 (five_lt (unhide A)))
      replace HB := hide (below_nx (unhide HB) b22)
      clear b22
      have za := unhide ZA
      have zb := unhide ZB
      have zs := unhide ZS
      go_wp2_with fail
      refine (unhide HT _).mono ?_
      rintro e w23 ⟨rfl, b23⟩
      replace A := hide (five_below (unhide A) b23 (five_lt (unhide A)))
      replace HB := hide (below_nx (unhide HB) b23)
      clear b23
      have G := hide (five_new w23 28 (.int .i64 X.kind) (.int .i64 X.num) (.string X.text) (.bool X.tr) (.int .i64 X.fail))
      have bb := below_al w23 (.cells #[.int .i64 X.kind, .int .i64 X.num, .string X.text, .bool X.tr, .int .i64 X.fail] 28)
      replace A := hide (five_below (unhide A) bb (five_lt (unhide A)))
      replace HB := hide (below_nx (unhide HB) bb)
      clear bb
      go_upto_region 7 with fail
      generalize hW : w23.alloc (.cells #[.int .i64 X.kind, .int .i64 X.num, .string X.text, .bool X.tr, .int .i64 X.fail] 28) = W9 at A G HB ⊢
      clear hW
      have hwr : IntKind.i64.wrap ((p.size : Int) + (S.size : Int)) = (p.size : Int) + (S.size : Int) := sum_wrap _ _ za zs
      clear za zb zs
      cases k2 : (X.kind == 2)
      · have HRD2 := hide (unhide HRD (by rw [beq_eq_false_iff_ne] at k2; exact k2))
        replace A := hide (five_drew (unhide A))
        replace G := hide (five_drew (unhide G))
        replace HB := hide (unhide HB).drew
        obtain ⟨a_0, a_1, a_2, a_3, a_4⟩ := five_cells (unhide A)
        obtain ⟨g_0, g_1, g_2, g_3, g_4⟩ := five_cells (unhide G)
        go_region_held3 (fun w' => w'.cell? ⟨w1.heap.size, 0, none⟩ = some (.int .i64 X.kind) ∧ w'.cell? ⟨w1.heap.size, 1, none⟩ = some (.int .i64 X.num) ∧ w'.cell? ⟨w1.heap.size, 2, none⟩ = some (.string X.text) ∧ w'.cell? ⟨w1.heap.size, 3, none⟩ = some (.bool X.tr) ∧ w'.cell? ⟨w1.heap.size, 4, none⟩ = some (.int .i64 X.fail) ∧ w'.cell? ⟨w23.heap.size, 0, none⟩ = some (.int .i64 X.kind) ∧ w'.cell? ⟨w23.heap.size, 1, none⟩ = some (.int .i64 X.num) ∧ w'.cell? ⟨w23.heap.size, 2, none⟩ = some (.string X.text) ∧ w'.cell? ⟨w23.heap.size, 3, none⟩ = some (.bool X.tr) ∧ w'.cell? ⟨w23.heap.size, 4, none⟩ = some (.int .i64 X.fail)) (first | exact ⟨a_0, a_1, a_2, a_3, a_4, g_0, g_1, g_2, g_3, g_4⟩ | go_keep)
          (first
            | (go_at_call 31; refine (unhide HSH _ ((unhide HE).below (unhide HB))).mono ?_; rintro e yy ⟨rfl, zz⟩; replace A := hide (five_below (unhide A) zz (five_lt (unhide A))); replace G := hide (five_below (unhide G) zz (five_lt (unhide G))); replace HB := hide (below_nx (unhide HB) zz); clear zz a_0 a_1 a_2 a_3 a_4 g_0 g_1 g_2 g_3 g_4; obtain ⟨a_0, a_1, a_2, a_3, a_4⟩ := five_cells (unhide A); obtain ⟨g_0, g_1, g_2, g_3, g_4⟩ := five_cells (unhide G))
            | (go_at_call 30; refine (unhide HRD2 _ ((unhide HE).below (unhide HB))).mono ?_; rintro e yy ⟨rfl, zz⟩; replace A := hide (five_below (unhide A) zz (five_lt (unhide A))); replace G := hide (five_below (unhide G) zz (five_lt (unhide G))); replace HB := hide (below_nx (unhide HB) zz); clear zz a_0 a_1 a_2 a_3 a_4 g_0 g_1 g_2 g_3 g_4; obtain ⟨a_0, a_1, a_2, a_3, a_4⟩ := five_cells (unhide A); obtain ⟨g_0, g_1, g_2, g_3, g_4⟩ := five_cells (unhide G)))
        all_goals (try go_wp2_with fail)
        all_goals go_ret
        all_goals exact ⟨rfl, unhide HB⟩
      · obtain ⟨a_0, a_1, a_2, a_3, a_4⟩ := five_cells (unhide A)
        obtain ⟨g_0, g_1, g_2, g_3, g_4⟩ := five_cells (unhide G)
        go_quiet (fail)
        go_wp2
        go_ret
        exact ⟨rfl, below_drewN (unhide HB) _⟩
end Go.Proofs.YteaodfeaidjcnaaDoor
