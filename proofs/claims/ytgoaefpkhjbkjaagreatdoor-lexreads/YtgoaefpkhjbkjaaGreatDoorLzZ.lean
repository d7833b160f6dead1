/- What the laws of layer 5 share: tokens compared, and what the law asks first. -/
import Derived.Test.YtgoaefpkhjbkjaaGreatDoorLxU
namespace Go.Proofs.YtgoaefpkhjbkjaaGreatDoor
open Go.RowKit

set_option maxRecDepth 100000 in
set_option maxHeartbeats 2000000 in
theorem sameRef5 (r : Rf) (w : World) :
    Calls Tryz.prog 20 #[.agg r.cells, .agg r.cells] w fun e w' => e = .returned (.bool true) ∧ Below w.heap.size w w' := by
  unfold Rf.cells
  go_enter Tryz.func20, Tryz.ntmps20
  go_wp2
  go_ret
  exact ⟨rfl, below_al2 _ _ _⟩
set_option maxRecDepth 100000 in
set_option maxHeartbeats 4000000 in
theorem same5_lit (tx bk sh : ByteArray) (kd nm fl c1 r1 c2 r2 pl : Int) (f1 g1 f2 g2 wd : Bool) (w : World) :
    Calls Tryz.prog 11 #[.agg #[.int .i64 kd, .string tx, .int .i64 nm, .int .i64 fl, .string bk, .string sh, .int .i64 c1, .int .i64 r1, .bool f1, .bool g1, .int .i64 c2, .int .i64 r2, .bool f2, .bool g2, .bool wd, .int .i64 pl], .agg #[.int .i64 kd, .string tx, .int .i64 nm, .int .i64 fl, .string bk, .string sh, .int .i64 c1, .int .i64 r1, .bool f1, .bool g1, .int .i64 c2, .int .i64 r2, .bool f2, .bool g2, .bool wd, .int .i64 pl]] w fun e w' => e = .returned (.bool true) ∧ Below w.heap.size w w' := by
  have HA := hide (fun w => sameRef5 ⟨c1, r1, f1, g1⟩ w)
  have HBB := hide (fun w => sameRef5 ⟨c2, r2, f2, g2⟩ w)
  unfold Rf.cells at HA HBB
  simp only [] at HA HBB
  go_enter Tryz.func11, Tryz.ntmps11
  go_upto_region 1 with fail
  have P := hide (cells_al (cells_new w 41 #[.int .i64 kd, .string tx, .int .i64 nm, .int .i64 fl, .string bk, .string sh, .int .i64 c1, .int .i64 r1, .bool f1, .bool g1, .int .i64 c2, .int .i64 r2, .bool f2, .bool g2, .bool wd, .int .i64 pl]) (.cells #[.int .i64 kd, .string tx, .int .i64 nm, .int .i64 fl, .string bk, .string sh, .int .i64 c1, .int .i64 r1, .bool f1, .bool g1, .int .i64 c2, .int .i64 r2, .bool f2, .bool g2, .bool wd, .int .i64 pl] 47))
  have Q := hide (cells_new2 w (.cells #[.int .i64 kd, .string tx, .int .i64 nm, .int .i64 fl, .string bk, .string sh, .int .i64 c1, .int .i64 r1, .bool f1, .bool g1, .int .i64 c2, .int .i64 r2, .bool f2, .bool g2, .bool wd, .int .i64 pl] 41) 47 #[.int .i64 kd, .string tx, .int .i64 nm, .int .i64 fl, .string bk, .string sh, .int .i64 c1, .int .i64 r1, .bool f1, .bool g1, .int .i64 c2, .int .i64 r2, .bool f2, .bool g2, .bool wd, .int .i64 pl])
  have HB : Hid (Below w.heap.size w ((w.alloc (.cells #[.int .i64 kd, .string tx, .int .i64 nm, .int .i64 fl, .string bk, .string sh, .int .i64 c1, .int .i64 r1, .bool f1, .bool g1, .int .i64 c2, .int .i64 r2, .bool f2, .bool g2, .bool wd, .int .i64 pl] 41)).alloc (.cells #[.int .i64 kd, .string tx, .int .i64 nm, .int .i64 fl, .string bk, .string sh, .int .i64 c1, .int .i64 r1, .bool f1, .bool g1, .int .i64 c2, .int .i64 r2, .bool f2, .bool g2, .bool wd, .int .i64 pl] 47))) := hide (below_al2 _ _ _)
  generalize hW : (w.alloc (.cells #[.int .i64 kd, .string tx, .int .i64 nm, .int .i64 fl, .string bk, .string sh, .int .i64 c1, .int .i64 r1, .bool f1, .bool g1, .int .i64 c2, .int .i64 r2, .bool f2, .bool g2, .bool wd, .int .i64 pl] 41)).alloc (.cells #[.int .i64 kd, .string tx, .int .i64 nm, .int .i64 fl, .string bk, .string sh, .int .i64 c1, .int .i64 r1, .bool f1, .bool g1, .int .i64 c2, .int .i64 r2, .bool f2, .bool g2, .bool wd, .int .i64 pl] 47) = W0 at P Q HB ⊢
  clear hW
  obtain ⟨p_0, p_1, p_2, p_3, p_4, p_5, p_6, p_7, p_8, p_9, p_10, p_11, p_12, p_13, p_14, p_15⟩ := cells16 (unhide P)
  obtain ⟨q_0, q_1, q_2, q_3, q_4, q_5, q_6, q_7, q_8, q_9, q_10, q_11, q_12, q_13, q_14, q_15⟩ := cells16 (unhide Q)
  go_wp2_with fail
  refine (unhide HA _).mono ?_
  rintro e wk1 ⟨rfl, bk1⟩
  replace P := hide (cells_nx (unhide P) bk1)
  replace Q := hide (cells_nx (unhide Q) bk1)
  replace HB := hide (below_nx (unhide HB) bk1)
  clear bk1
  clear p_0 p_1 p_2 p_3 p_4 p_5 p_6 p_7 p_8 p_9 p_10 p_11 p_12 p_13 p_14 p_15 q_0 q_1 q_2 q_3 q_4 q_5 q_6 q_7 q_8 q_9 q_10 q_11 q_12 q_13 q_14 q_15
  obtain ⟨p_0, p_1, p_2, p_3, p_4, p_5, p_6, p_7, p_8, p_9, p_10, p_11, p_12, p_13, p_14, p_15⟩ := cells16 (unhide P)
  obtain ⟨q_0, q_1, q_2, q_3, q_4, q_5, q_6, q_7, q_8, q_9, q_10, q_11, q_12, q_13, q_14, q_15⟩ := cells16 (unhide Q)
  go_wp2_with fail
  refine (unhide HBB _).mono ?_
  rintro e wk2 ⟨rfl, bk2⟩
  replace P := hide (cells_nx (unhide P) bk2)
  replace Q := hide (cells_nx (unhide Q) bk2)
  replace HB := hide (below_nx (unhide HB) bk2)
  clear bk2
  clear p_0 p_1 p_2 p_3 p_4 p_5 p_6 p_7 p_8 p_9 p_10 p_11 p_12 p_13 p_14 p_15 q_0 q_1 q_2 q_3 q_4 q_5 q_6 q_7 q_8 q_9 q_10 q_11 q_12 q_13 q_14 q_15
  obtain ⟨p_0, p_1, p_2, p_3, p_4, p_5, p_6, p_7, p_8, p_9, p_10, p_11, p_12, p_13, p_14, p_15⟩ := cells16 (unhide P)
  obtain ⟨q_0, q_1, q_2, q_3, q_4, q_5, q_6, q_7, q_8, q_9, q_10, q_11, q_12, q_13, q_14, q_15⟩ := cells16 (unhide Q)
  go_wp2
  go_ret
  exact ⟨rfl, unhide HB⟩
theorem same5 (t : Tk) (w : World) :
    Calls Tryz.prog 11 #[.agg t.cells, .agg t.cells] w fun e w' => e = .returned (.bool true) ∧ Below w.heap.size w w' := by
  obtain ⟨kd, tx, nm, fl, ⟨bk, sh, ⟨c1, r1, f1, g1⟩, ⟨c2, r2, f2, g2⟩, wd⟩, pl⟩ := t
  exact same5_lit tx bk sh kd nm fl c1 r1 c2 r2 pl f1 g1 f2 g2 wd w
def wkL : List UInt8 := [83, 85, 77, 40, 97, 49, 58, 66, 50, 44, 34, 120, 34, 34, 121, 34, 41, 60, 61, 49, 46, 53, 48]
def wkT : List Tk := [⟨4, ⟨#[83, 85, 77]⟩, 0, 0, zeroF, 0⟩, ⟨6, emp, 0, 0, zeroF, 3⟩, ⟨3, emp, 0, 0, ⟨⟨#[]⟩, ⟨#[]⟩, ⟨0, 0, false, false⟩, ⟨1, 1, false, false⟩, true⟩, 4⟩, ⟨8, emp, 0, 0, zeroF, 9⟩, ⟨1, ⟨#[120, 34, 121]⟩, 0, 0, zeroF, 10⟩, ⟨7, emp, 0, 0, zeroF, 16⟩, ⟨5, ⟨#[60, 61]⟩, 0, 0, zeroF, 17⟩, ⟨0, emp, 15000, 0, zeroF, 19⟩]
theorem wkt_0 : tok1 [83, 85, 77, 40, 97, 49, 58, 66, 50, 44, 34, 120, 34, 34, 121, 34, 41, 60, 61, 49, 46, 53, 48] = ((⟨4, ⟨#[83, 85, 77]⟩, 0, 0, zeroF, 0⟩ : Tk), 3, 0) := by kernel_rfl
theorem wkt_1 : tok1 [40, 97, 49, 58, 66, 50, 44, 34, 120, 34, 34, 121, 34, 41, 60, 61, 49, 46, 53, 48] = ((⟨6, emp, 0, 0, zeroF, 0⟩ : Tk), 1, 0) := by kernel_rfl
theorem wkt_2 : tok1 [97, 49, 58, 66, 50, 44, 34, 120, 34, 34, 121, 34, 41, 60, 61, 49, 46, 53, 48] = ((⟨3, emp, 0, 0, ⟨⟨#[]⟩, ⟨#[]⟩, ⟨0, 0, false, false⟩, ⟨1, 1, false, false⟩, true⟩, 0⟩ : Tk), 5, 0) := by kernel_rfl
theorem wkt_3 : tok1 [44, 34, 120, 34, 34, 121, 34, 41, 60, 61, 49, 46, 53, 48] = ((⟨8, emp, 0, 0, zeroF, 0⟩ : Tk), 1, 0) := by kernel_rfl
theorem wkt_4 : tok1 [34, 120, 34, 34, 121, 34, 41, 60, 61, 49, 46, 53, 48] = ((⟨1, ⟨#[120, 34, 121]⟩, 0, 0, zeroF, 0⟩ : Tk), 6, 0) := by kernel_rfl
theorem wkt_5 : tok1 [41, 60, 61, 49, 46, 53, 48] = ((⟨7, emp, 0, 0, zeroF, 0⟩ : Tk), 1, 0) := by kernel_rfl
theorem wkt_6 : tok1 [60, 61, 49, 46, 53, 48] = ((⟨5, ⟨#[60, 61]⟩, 0, 0, zeroF, 0⟩ : Tk), 2, 0) := by kernel_rfl
theorem wkt_7 : tok1 [49, 46, 53, 48] = ((⟨0, emp, 15000, 0, zeroF, 0⟩ : Tk), 4, 0) := by kernel_rfl
theorem wk_lex : lexT wkL = (wkT, 0, 0) := by
  unfold lexT wkL
  rw [if_neg (by decide)]
  have e0 : lexL 0 [83, 85, 77, 40, 97, 49, 58, 66, 50, 44, 34, 120, 34, 34, 121, 34, 41, 60, 61, 49, 46, 53, 48] = preT [⟨4, ⟨#[83, 85, 77]⟩, 0, 0, zeroF, 0⟩] (lexL 3 [40, 97, 49, 58, 66, 50, 44, 34, 120, 34, 34, 121, 34, 41, 60, 61, 49, 46, 53, 48]) := by
    have h := lexL_ok 0 83 [85, 77, 40, 97, 49, 58, 66, 50, 44, 34, 120, 34, 34, 121, 34, 41, 60, 61, 49, 46, 53, 48] (by decide) (by rw [wkt_0])
    rw [wkt_0] at h
    exact h
  have e1 : lexL 3 [40, 97, 49, 58, 66, 50, 44, 34, 120, 34, 34, 121, 34, 41, 60, 61, 49, 46, 53, 48] = preT [⟨6, emp, 0, 0, zeroF, 3⟩] (lexL 4 [97, 49, 58, 66, 50, 44, 34, 120, 34, 34, 121, 34, 41, 60, 61, 49, 46, 53, 48]) := by
    have h := lexL_ok 3 40 [97, 49, 58, 66, 50, 44, 34, 120, 34, 34, 121, 34, 41, 60, 61, 49, 46, 53, 48] (by decide) (by rw [wkt_1])
    rw [wkt_1] at h
    exact h
  have e2 : lexL 4 [97, 49, 58, 66, 50, 44, 34, 120, 34, 34, 121, 34, 41, 60, 61, 49, 46, 53, 48] = preT [⟨3, emp, 0, 0, ⟨⟨#[]⟩, ⟨#[]⟩, ⟨0, 0, false, false⟩, ⟨1, 1, false, false⟩, true⟩, 4⟩] (lexL 9 [44, 34, 120, 34, 34, 121, 34, 41, 60, 61, 49, 46, 53, 48]) := by
    have h := lexL_ok 4 97 [49, 58, 66, 50, 44, 34, 120, 34, 34, 121, 34, 41, 60, 61, 49, 46, 53, 48] (by decide) (by rw [wkt_2])
    rw [wkt_2] at h
    exact h
  have e3 : lexL 9 [44, 34, 120, 34, 34, 121, 34, 41, 60, 61, 49, 46, 53, 48] = preT [⟨8, emp, 0, 0, zeroF, 9⟩] (lexL 10 [34, 120, 34, 34, 121, 34, 41, 60, 61, 49, 46, 53, 48]) := by
    have h := lexL_ok 9 44 [34, 120, 34, 34, 121, 34, 41, 60, 61, 49, 46, 53, 48] (by decide) (by rw [wkt_3])
    rw [wkt_3] at h
    exact h
  have e4 : lexL 10 [34, 120, 34, 34, 121, 34, 41, 60, 61, 49, 46, 53, 48] = preT [⟨1, ⟨#[120, 34, 121]⟩, 0, 0, zeroF, 10⟩] (lexL 16 [41, 60, 61, 49, 46, 53, 48]) := by
    have h := lexL_ok 10 34 [120, 34, 34, 121, 34, 41, 60, 61, 49, 46, 53, 48] (by decide) (by rw [wkt_4])
    rw [wkt_4] at h
    exact h
  have e5 : lexL 16 [41, 60, 61, 49, 46, 53, 48] = preT [⟨7, emp, 0, 0, zeroF, 16⟩] (lexL 17 [60, 61, 49, 46, 53, 48]) := by
    have h := lexL_ok 16 41 [60, 61, 49, 46, 53, 48] (by decide) (by rw [wkt_5])
    rw [wkt_5] at h
    exact h
  have e6 : lexL 17 [60, 61, 49, 46, 53, 48] = preT [⟨5, ⟨#[60, 61]⟩, 0, 0, zeroF, 17⟩] (lexL 19 [49, 46, 53, 48]) := by
    have h := lexL_ok 17 60 [61, 49, 46, 53, 48] (by decide) (by rw [wkt_6])
    rw [wkt_6] at h
    exact h
  have e7 : lexL 19 [49, 46, 53, 48] = preT [⟨0, emp, 15000, 0, zeroF, 19⟩] (lexL 23 []) := by
    have h := lexL_ok 19 49 [46, 53, 48] (by decide) (by rw [wkt_7])
    rw [wkt_7] at h
    exact h
  rw [e0, e1, e2, e3, e4, e5, e6, e7, lexL_nil]
  rfl
theorem wk_join : joinL wkT = [83, 85, 77, 32, 40, 32, 65, 49, 58, 66, 50, 32, 44, 32, 34, 120, 34, 34, 121, 34, 32, 41, 32, 60, 61, 32, 49, 46, 53] := by kernel_rfl
theorem wk_ref : fullT (⟨⟨#[]⟩, ⟨#[]⟩, ⟨0, 0, false, false⟩, ⟨1, 1, false, false⟩, true⟩ : Fl) = [65, 49, 58, 66, 50] := by kernel_rfl
theorem toks0 {T : TypeId} {w : World} {B : Nat} {v : Value} {ts : List Tk} (h : TokRow T w B v ts) (hne : ts ≠ []) : ∃ g cap, v = .slice (some ⟨g, 0, none⟩) ts.length cap ∧ B ≤ g ∧ g < w.heap.size ∧ ∀ (i : Nat) (t : Tk), ts[i]? = some t → ∀ (j : Nat) (u : Value), t.cells[j]? = some u → w.cell? ⟨g, i * 16 + j, none⟩ = some u := by
  rcases h.2 with ⟨rfl, h0⟩ | ⟨g, cap, cur, rfl, hg, hh, hc, _, hs, ht⟩
  · exact absurd (List.eq_nil_of_length_eq_zero h0) hne
  · refine ⟨g, cap, rfl, hg, ?_, ?_⟩
    · rcases Nat.lt_or_ge g w.heap.size with h | h
      · exact h
      · rw [Array.getElem?_eq_none h] at hh; cases hh
    · intro i t hi j u hu
      have h1 := flat_get ts i t hi j u hu
      rw [← ht] at h1
      rw [cell_of_row w g _ cur T (0, 0) hh]
      rw [List.getElem?_take] at h1
      split at h1
      · simpa using h1
      · cases h1
theorem wk_small : ∀ t ∈ wkT, t.text.size ≤ 1000 := by
  intro t ht
  unfold wkT at ht
  simp only [List.mem_cons, List.not_mem_nil, or_false] at ht
  rcases ht with rfl | rfl | rfl | rfl | rfl | rfl | rfl | rfl <;> decide
set_option maxRecDepth 100000 in
set_option maxHeartbeats 4000000 in
theorem wakes5 (w : World) (he : Env5 w) :
    Calls Tryz.prog 10 #[] w fun e w' => e = .returned (.bool true) ∧ Below w.heap.size w w' := by
  have HE := hide he
  clear he
  have HLX := hide (fun w he => lex5_val ⟨wkL.toArray⟩ w (by decide) he)
  rw [show (⟨wkL.toArray⟩ : ByteArray).data.toList = wkL from rfl, wk_lex] at HLX
  have HFT := hide (fun w (he : Env5 w) => fullText_val (⟨⟨#[]⟩, ⟨#[]⟩, ⟨0, 0, false, false⟩, ⟨1, 1, false, false⟩, true⟩ : Fl) w he.e4)
  rw [wk_ref] at HFT
  unfold Fl.cells at HFT
  simp only [] at HFT
  have HJ := hide (fun a cap w he hin => join5_val a cap wkT w he hin (by decide) wk_small)
  rw [wk_join] at HJ
  go_enter Tryz.func10, Tryz.ntmps10
  go_wp2_with fail
  refine (unhide HLX _ (unhide HE)).mono ?_
  rintro e w1 ⟨v, rfl, HT, HB⟩
  replace HB := hide HB
  have HT : TokRow 41 w1 w.heap.size v wkT := HT
  obtain ⟨a, cap, hv, _, hin⟩ := toks_of_row HT
  obtain ⟨g, cap', rfl, hg, hgl, hc⟩ := toks0 HT (by unfold wkT; simp)
  cases hv
  have HI := hide hin
  have HC : Hid (∀ (i : Nat) (t : Tk), wkT[i]? = some t → ∀ (j : Nat) (u : Value), t.cells[j]? = some u → w1.cell? ⟨g, i * 16 + j, none⟩ = some u) := hide hc
  have HGL := hide hgl
  clear hc hin HT hg hgl
  rw [show wkT.length = 8 from rfl] at HJ ⊢
  have k_0_1 : w1.cell? ⟨g, 1, none⟩ = some (.string ⟨#[83, 85, 77]⟩) := unhide HC  0 _ rfl 1 _ rfl
  have k_4_1 : w1.cell? ⟨g, 65, none⟩ = some (.string ⟨#[120, 34, 121]⟩) := unhide HC  4 _ rfl 1 _ rfl
  have k_6_1 : w1.cell? ⟨g, 97, none⟩ = some (.string ⟨#[60, 61]⟩) := unhide HC  6 _ rfl 1 _ rfl
  have k_7_2 : w1.cell? ⟨g, 114, none⟩ = some (.int .i64 15000) := unhide HC  7 _ rfl 2 _ rfl
  have k_2_4 : w1.cell? ⟨g, 36, none⟩ = some (.string ⟨#[]⟩) := unhide HC  2 _ rfl 4 _ rfl
  have k_2_5 : w1.cell? ⟨g, 37, none⟩ = some (.string ⟨#[]⟩) := unhide HC  2 _ rfl 5 _ rfl
  have k_2_6 : w1.cell? ⟨g, 38, none⟩ = some (.int .i64 0) := unhide HC  2 _ rfl 6 _ rfl
  have k_2_7 : w1.cell? ⟨g, 39, none⟩ = some (.int .i64 0) := unhide HC  2 _ rfl 7 _ rfl
  have k_2_8 : w1.cell? ⟨g, 40, none⟩ = some (.bool false) := unhide HC  2 _ rfl 8 _ rfl
  have k_2_9 : w1.cell? ⟨g, 41, none⟩ = some (.bool false) := unhide HC  2 _ rfl 9 _ rfl
  have k_2_10 : w1.cell? ⟨g, 42, none⟩ = some (.int .i64 1) := unhide HC  2 _ rfl 10 _ rfl
  have k_2_11 : w1.cell? ⟨g, 43, none⟩ = some (.int .i64 1) := unhide HC  2 _ rfl 11 _ rfl
  have k_2_12 : w1.cell? ⟨g, 44, none⟩ = some (.bool false) := unhide HC  2 _ rfl 12 _ rfl
  have k_2_13 : w1.cell? ⟨g, 45, none⟩ = some (.bool false) := unhide HC  2 _ rfl 13 _ rfl
  have k_2_14 : w1.cell? ⟨g, 46, none⟩ = some (.bool true) := unhide HC  2 _ rfl 14 _ rfl
  go_wp2_with fail
  refine (unhide HFT _ ((unhide HE).below (unhide HB))).mono ?_
  rintro e w2 ⟨rfl, b2⟩
  have HC2 : Hid (∀ (i : Nat) (t : Tk), wkT[i]? = some t → ∀ (j : Nat) (u : Value), t.cells[j]? = some u → w2.cell? ⟨g, i * 16 + j, none⟩ = some u) := hide (fun i t hi j u hu => by rw [b2.cell (p := ⟨g, i * 16 + j, none⟩) (unhide HGL)]; exact unhide HC i t hi j u hu)
  clear k_0_1 k_4_1 k_6_1 k_7_2 k_2_4 k_2_5 k_2_6 k_2_7 k_2_8 k_2_9 k_2_10 k_2_11 k_2_12 k_2_13 k_2_14 HC
  have HC := HC2
  have HI2 := hide (toks_below (unhide HI) b2)
  replace HB := hide (below_nx (unhide HB) b2)
  clear b2 HC2 HI
  have k_0_1 : w2.cell? ⟨g, 1, none⟩ = some (.string ⟨#[83, 85, 77]⟩) := unhide HC  0 _ rfl 1 _ rfl
  have k_4_1 : w2.cell? ⟨g, 65, none⟩ = some (.string ⟨#[120, 34, 121]⟩) := unhide HC  4 _ rfl 1 _ rfl
  have k_6_1 : w2.cell? ⟨g, 97, none⟩ = some (.string ⟨#[60, 61]⟩) := unhide HC  6 _ rfl 1 _ rfl
  have k_7_2 : w2.cell? ⟨g, 114, none⟩ = some (.int .i64 15000) := unhide HC  7 _ rfl 2 _ rfl
  have k_2_4 : w2.cell? ⟨g, 36, none⟩ = some (.string ⟨#[]⟩) := unhide HC  2 _ rfl 4 _ rfl
  have k_2_5 : w2.cell? ⟨g, 37, none⟩ = some (.string ⟨#[]⟩) := unhide HC  2 _ rfl 5 _ rfl
  have k_2_6 : w2.cell? ⟨g, 38, none⟩ = some (.int .i64 0) := unhide HC  2 _ rfl 6 _ rfl
  have k_2_7 : w2.cell? ⟨g, 39, none⟩ = some (.int .i64 0) := unhide HC  2 _ rfl 7 _ rfl
  have k_2_8 : w2.cell? ⟨g, 40, none⟩ = some (.bool false) := unhide HC  2 _ rfl 8 _ rfl
  have k_2_9 : w2.cell? ⟨g, 41, none⟩ = some (.bool false) := unhide HC  2 _ rfl 9 _ rfl
  have k_2_10 : w2.cell? ⟨g, 42, none⟩ = some (.int .i64 1) := unhide HC  2 _ rfl 10 _ rfl
  have k_2_11 : w2.cell? ⟨g, 43, none⟩ = some (.int .i64 1) := unhide HC  2 _ rfl 11 _ rfl
  have k_2_12 : w2.cell? ⟨g, 44, none⟩ = some (.bool false) := unhide HC  2 _ rfl 12 _ rfl
  have k_2_13 : w2.cell? ⟨g, 45, none⟩ = some (.bool false) := unhide HC  2 _ rfl 13 _ rfl
  have k_2_14 : w2.cell? ⟨g, 46, none⟩ = some (.bool true) := unhide HC  2 _ rfl 14 _ rfl
  go_wp2_with fail
  refine (unhide HJ _ _ _ ((unhide HE).below (unhide HB)) (unhide HI2)).mono ?_
  rintro e w3 ⟨rfl, b3⟩
  replace HB := hide (below_nx (unhide HB) b3)
  clear b3
  go_wp2
  go_ret
  exact ⟨rfl, unhide HB⟩
end Go.Proofs.YtgoaefpkhjbkjaaGreatDoor

namespace Go.Proofs.YtgoaefpkhjbkjaaGreatDoor
open Go.RowKit

/-- Tokens from a place of a block on. -/
def ToksAt (w : World) (g off : Nat) (ts : List Tk) : Prop :=
  g < w.heap.size ∧ ∀ (i : Nat) (t : Tk), ts[i]? = some t → ∀ (j : Nat) (u : Value), t.cells[j]? = some u → w.cell? ⟨g, off + i * 16 + j, none⟩ = some u
theorem toksAt_nx {w w' : World} {g off : Nat} {ts : List Tk} (h : ToksAt w g off ts) (hb : Below w.heap.size w w') : ToksAt w' g off ts :=
  ⟨Nat.lt_of_lt_of_le h.1 hb.size, fun i t hi j u hu => by rw [hb.cell (p := ⟨g, off + i * 16 + j, none⟩) h.1]; exact h.2 i t hi j u hu⟩
theorem toksAt_drew {w : World} {g off : Nat} {ts : List Tk} (h : ToksAt w g off ts) : ToksAt w.drew g off ts := h
theorem toksAt_of {w : World} {a : Option Addr} {ts : List Tk} (h : ToksIn w a ts) (k : Nat) (hk : k < ts.length) : ∃ g off, a = some ⟨g, off, none⟩ ∧ ToksAt w g off ts := by
  rcases h with h | ⟨g, off, rfl, hg, hc⟩
  · rw [h] at hk; simp at hk
  · exact ⟨g, off, rfl, hg, hc⟩
theorem toksAt_in {w : World} {g off : Nat} {ts : List Tk} (h : ToksAt w g off ts) : ToksIn w (some ⟨g, off, none⟩) ts := Or.inr ⟨g, off, rfl, h.1, h.2⟩
theorem up_size (r : List UInt8) : (⟨(r.map upC).toArray⟩ : ByteArray).size = r.length := by
  show (r.map upC).length = r.length
  simp
theorem tok1_text (c : UInt8) (l : List UInt8) (h : (c :: l).length ≤ 1000) : (tok1 (c :: l)).1.text.size ≤ 1000 := by
  have hr := tk_len inRunC (c :: l)
  have he : emp.size ≤ 1000 := by decide
  have hw : (wordT (runR (c :: l))).text.size ≤ 1000 := by
    show (⟨((runR (c :: l)).map upC).toArray⟩ : ByteArray).size ≤ 1000
    rw [up_size]; unfold runR; omega
  unfold tok1
  rw [show (c :: l).headD 0 = c from rfl]
  split
  · unfold numTok; split <;> exact he
  split
  · unfold nameTok
    split
    · exact hw
    split
    · exact he
    split
    · exact hw
    · exact he
  split
  · unfold opTok
    show ((c :: l).take (opN (c :: l))).length ≤ 1000
    rw [List.length_take]; omega
  split
  · unfold textTok
    split
    · exact he
    · rename_i p hq
      split
      · exact he
      · show p.1.length ≤ 1000
        omega
  split
  · unfold failTok
    split <;> exact he
  split
  · exact he
  split
  · exact he
  split
  · exact he
  · exact he
theorem lexL_text (o : Nat) (l : List UInt8) : l.length ≤ 1000 → ∀ t ∈ (lexL o l).1, t.text.size ≤ 1000 := by
  refine lex_all (M := fun o l => l.length ≤ 1000 → ∀ t ∈ (lexL o l).1, t.text.size ≤ 1000) ?_ ?_ ?_ ?_ o l
  · intro o _ t ht; rw [lexL_nil] at ht; cases ht
  · intro o l ih hl; rw [lexL_blank]; exact ih (by simp at hl; omega)
  · intro o c l hc he _ t ht; rw [lexL_bad o c l hc he] at ht; cases ht
  · intro o c l hc he ih hl t ht
    have ih := ih (by rw [List.length_drop]; omega)
    rw [lexL_ok o c l hc he] at ht
    generalize lexL (o + (tok1 (c :: l)).2.1) ((c :: l).drop (tok1 (c :: l)).2.1) = y at ih ht
    obtain ⟨a, b, e⟩ := y
    unfold preT at ht
    split at ht
    · rw [List.singleton_append, List.mem_cons] at ht
      rcases ht with rfl | ht
      · exact tok1_text c l hl
      · exact ih t ht
    · cases ht
theorem lexT_text (l : List UInt8) (hl : l.length ≤ 1000) : ∀ t ∈ (lexT l).1, t.text.size ≤ 1000 := by
  unfold lexT
  split
  · intro t ht; cases ht
  · exact lexL_text 0 l hl
theorem lexT_count (l : List UInt8) : (lexT l).1.length ≤ 512 := by
  unfold lexT
  split
  · simp
  · have := lexL_count 0 l
    omega
theorem lexT_err (l : List UInt8) : (lexT l).2.2 ≠ 0 → (lexT l).1 = [] := by
  unfold lexT
  split
  · intro _; rfl
  · exact lexL_err 0 l
theorem lexT_zero (l : List UInt8) : (lexT l).2.2 = 0 → (lexT l).2.1 = 0 := by
  unfold lexT
  split
  · intro _; rfl
  · exact lexL_zero 0 l
theorem cut600 (s : ByteArray) : (s.extract 0 (min (s.size : Int) 600).toNat).size ≤ 600 := by
  rw [ByteArray.size_extract]; omega
theorem cut250 (s : ByteArray) : (s.extract 0 (min (s.size : Int) 250).toNat).size ≤ 250 := by
  rw [ByteArray.size_extract]; omega
theorem cut150 (s : ByteArray) : (s.extract 0 (min (s.size : Int) 150).toNat).size ≤ 150 := by
  rw [ByteArray.size_extract]; omega
end Go.Proofs.YtgoaefpkhjbkjaaGreatDoor
