/- The contracts of formedFull and Parse. -/
import Derived.Test.YtlgmpoofcdkaeaaDoorAdP
namespace Go.Proofs.YtlgmpoofcdkaeaaDoor
open Go.RowKit

theorem infoF : (Tryd.prog.info? 31).map (·.size) = some 11 := by kernel_rfl
theorem cells_set11 {w : World} {B : Nat} {t : TypeId} {y0 y1 y2 y3 y4 y5 y6 y7 y8 y9 y10 : Value} (h : CellsAt w B t #[y0, y1, y2, y3, y4, y5, y6, y7, y8, y9, y10]) (x0 x1 x2 x3 x4 x5 x6 x7 x8 x9 x10 : Value) : CellsAt (((((((((((w.setCell ⟨B, 0, none⟩ x0).setCell ⟨B, 1, none⟩ x1).setCell ⟨B, 2, none⟩ x2).setCell ⟨B, 3, none⟩ x3).setCell ⟨B, 4, none⟩ x4).setCell ⟨B, 5, none⟩ x5).setCell ⟨B, 6, none⟩ x6).setCell ⟨B, 7, none⟩ x7).setCell ⟨B, 8, none⟩ x8).setCell ⟨B, 9, none⟩ x9).setCell ⟨B, 10, none⟩ x10) B t #[x0, x1, x2, x3, x4, x5, x6, x7, x8, x9, x10] := by
  have h0 : CellsAt (w.setCell ⟨B, 0, none⟩ x0) B t #[x0, y1, y2, y3, y4, y5, y6, y7, y8, y9, y10] := cells_set h 0 x0
  have h1 : CellsAt ((w.setCell ⟨B, 0, none⟩ x0).setCell ⟨B, 1, none⟩ x1) B t #[x0, x1, y2, y3, y4, y5, y6, y7, y8, y9, y10] := cells_set h0 1 x1
  have h2 : CellsAt (((w.setCell ⟨B, 0, none⟩ x0).setCell ⟨B, 1, none⟩ x1).setCell ⟨B, 2, none⟩ x2) B t #[x0, x1, x2, y3, y4, y5, y6, y7, y8, y9, y10] := cells_set h1 2 x2
  have h3 : CellsAt ((((w.setCell ⟨B, 0, none⟩ x0).setCell ⟨B, 1, none⟩ x1).setCell ⟨B, 2, none⟩ x2).setCell ⟨B, 3, none⟩ x3) B t #[x0, x1, x2, x3, y4, y5, y6, y7, y8, y9, y10] := cells_set h2 3 x3
  have h4 : CellsAt (((((w.setCell ⟨B, 0, none⟩ x0).setCell ⟨B, 1, none⟩ x1).setCell ⟨B, 2, none⟩ x2).setCell ⟨B, 3, none⟩ x3).setCell ⟨B, 4, none⟩ x4) B t #[x0, x1, x2, x3, x4, y5, y6, y7, y8, y9, y10] := cells_set h3 4 x4
  have h5 : CellsAt ((((((w.setCell ⟨B, 0, none⟩ x0).setCell ⟨B, 1, none⟩ x1).setCell ⟨B, 2, none⟩ x2).setCell ⟨B, 3, none⟩ x3).setCell ⟨B, 4, none⟩ x4).setCell ⟨B, 5, none⟩ x5) B t #[x0, x1, x2, x3, x4, x5, y6, y7, y8, y9, y10] := cells_set h4 5 x5
  have h6 : CellsAt (((((((w.setCell ⟨B, 0, none⟩ x0).setCell ⟨B, 1, none⟩ x1).setCell ⟨B, 2, none⟩ x2).setCell ⟨B, 3, none⟩ x3).setCell ⟨B, 4, none⟩ x4).setCell ⟨B, 5, none⟩ x5).setCell ⟨B, 6, none⟩ x6) B t #[x0, x1, x2, x3, x4, x5, x6, y7, y8, y9, y10] := cells_set h5 6 x6
  have h7 : CellsAt ((((((((w.setCell ⟨B, 0, none⟩ x0).setCell ⟨B, 1, none⟩ x1).setCell ⟨B, 2, none⟩ x2).setCell ⟨B, 3, none⟩ x3).setCell ⟨B, 4, none⟩ x4).setCell ⟨B, 5, none⟩ x5).setCell ⟨B, 6, none⟩ x6).setCell ⟨B, 7, none⟩ x7) B t #[x0, x1, x2, x3, x4, x5, x6, x7, y8, y9, y10] := cells_set h6 7 x7
  have h8 : CellsAt (((((((((w.setCell ⟨B, 0, none⟩ x0).setCell ⟨B, 1, none⟩ x1).setCell ⟨B, 2, none⟩ x2).setCell ⟨B, 3, none⟩ x3).setCell ⟨B, 4, none⟩ x4).setCell ⟨B, 5, none⟩ x5).setCell ⟨B, 6, none⟩ x6).setCell ⟨B, 7, none⟩ x7).setCell ⟨B, 8, none⟩ x8) B t #[x0, x1, x2, x3, x4, x5, x6, x7, x8, y9, y10] := cells_set h7 8 x8
  have h9 : CellsAt ((((((((((w.setCell ⟨B, 0, none⟩ x0).setCell ⟨B, 1, none⟩ x1).setCell ⟨B, 2, none⟩ x2).setCell ⟨B, 3, none⟩ x3).setCell ⟨B, 4, none⟩ x4).setCell ⟨B, 5, none⟩ x5).setCell ⟨B, 6, none⟩ x6).setCell ⟨B, 7, none⟩ x7).setCell ⟨B, 8, none⟩ x8).setCell ⟨B, 9, none⟩ x9) B t #[x0, x1, x2, x3, x4, x5, x6, x7, x8, x9, y10] := cells_set h8 9 x9
  have h10 : CellsAt (((((((((((w.setCell ⟨B, 0, none⟩ x0).setCell ⟨B, 1, none⟩ x1).setCell ⟨B, 2, none⟩ x2).setCell ⟨B, 3, none⟩ x3).setCell ⟨B, 4, none⟩ x4).setCell ⟨B, 5, none⟩ x5).setCell ⟨B, 6, none⟩ x6).setCell ⟨B, 7, none⟩ x7).setCell ⟨B, 8, none⟩ x8).setCell ⟨B, 9, none⟩ x9).setCell ⟨B, 10, none⟩ x10) B t #[x0, x1, x2, x3, x4, x5, x6, x7, x8, x9, x10] := cells_set h9 10 x10
  exact h10
theorem below_set11 {w a : World} {N B : Nat} (h : Below N w a) (hB : N ≤ B) (x0 x1 x2 x3 x4 x5 x6 x7 x8 x9 x10 : Value) : Below N w (((((((((((a.setCell ⟨B, 0, none⟩ x0).setCell ⟨B, 1, none⟩ x1).setCell ⟨B, 2, none⟩ x2).setCell ⟨B, 3, none⟩ x3).setCell ⟨B, 4, none⟩ x4).setCell ⟨B, 5, none⟩ x5).setCell ⟨B, 6, none⟩ x6).setCell ⟨B, 7, none⟩ x7).setCell ⟨B, 8, none⟩ x8).setCell ⟨B, 9, none⟩ x9).setCell ⟨B, 10, none⟩ x10) :=
  below_set (below_set (below_set (below_set (below_set (below_set (below_set (below_set (below_set (below_set (below_set (h) hB x0) hB x1) hB x2) hB x3) hB x4) hB x5) hB x6) hB x7) hB x8) hB x9) hB x10
/-- What formedFull answers. -/
def FormPost (l : List UInt8) (w : World) (e : Ending) (w' : World) : Prop :=
  ∃ F : Fl, e = .returned (.tuple #[.agg F.cells, .bool (formOk l)]) ∧ (formOk l = true → F = formF l) ∧ Below w.heap.size w w'
theorem plC_len (l : List UInt8) : (plC l).1.length ≤ l.length ∧ (plC l).2.1.length ≤ l.length := by
  have h := partP_len l
  have h2 := cut_le (partP l) 58
  unfold plC
  omega

set_option maxRecDepth 100000 in
set_option maxHeartbeats 8000000 in
theorem formedFull_val (s : ByteArray) (w : World) (hs : s.size < 4294967281) (he : Env4 w) :
    Calls Tryd.prog 49 #[.string s] w fun e w' => FormPost s.data.toList w e w' := by
  obtain ⟨l, hl⟩ : ∃ l, s.data.toList = l := ⟨_, rfl⟩
  have hz : l.length < 4294967281 := by rw [← hl]; exact hs
  have HPT := hide (fun w he => parted_val s w hs he)
  rw [hl] at HPT ⊢
  have HE := hide he
  clear he hs hl
  unfold PartPost at HPT
  cases ho : partOk l
  · rw [ho] at HPT
    have HO : Hid (formOk l = false) := hide (by unfold formOk; rw [ho]; rfl)
    clear ho hz
    go_enter Tryd.func49, Tryd.ntmps49
    go_upto_region 1 with fail
    have R := hide (cells_new w 31 #[.string ⟨#[]⟩, .string ⟨#[]⟩, .int .i64 0, .int .i64 0, .bool false, .bool false, .int .i64 0, .int .i64 0, .bool false, .bool false, .bool false])
    have HB : Hid (Below w.heap.size w (w.alloc (.cells #[.string ⟨#[]⟩, .string ⟨#[]⟩, .int .i64 0, .int .i64 0, .bool false, .bool false, .int .i64 0, .int .i64 0, .bool false, .bool false, .bool false] 31))) := hide (below_al _ _)
    generalize hW : w.alloc (.cells #[.string ⟨#[]⟩, .string ⟨#[]⟩, .int .i64 0, .int .i64 0, .bool false, .bool false, .int .i64 0, .int .i64 0, .bool false, .bool false, .bool false] 31) = W0 at R HB ⊢
    clear hW
    go_wp2_with fail
    refine (unhide HPT _ ((unhide HE).below (unhide HB))).mono ?_
    rintro e wp ⟨BB, SS, PP, rfl, hp, bp⟩
    replace R := hide (cells_nx (unhide R) bp)
    replace HB := hide (below_nx (unhide HB) bp)
    clear bp
    clear hp
    obtain ⟨r_0, r_1, r_2, r_3, r_4, r_5, r_6, r_7, r_8, r_9, r_10⟩ := cells11 (unhide R)
    have fz_r_0 := cells_f (unhide R) 0
    have fz_r_1 := cells_f (unhide R) 1
    have fz_r_2 := cells_f (unhide R) 2
    have fz_r_3 := cells_f (unhide R) 3
    have fz_r_4 := cells_f (unhide R) 4
    have fz_r_5 := cells_f (unhide R) 5
    have fz_r_6 := cells_f (unhide R) 6
    have fz_r_7 := cells_f (unhide R) 7
    have fz_r_8 := cells_f (unhide R) 8
    have fz_r_9 := cells_f (unhide R) 9
    have fz_r_10 := cells_f (unhide R) 10
    go_wp2
    refine bodyPost_ret (results_c1t rfl _ _ _ _ _ _ rfl (cells_set11 (unhide R) _ _ _ _ _ _ _ _ _ _ _) Tryd.underlying31 rfl (by exact infoF) _ rfl) rfl ?_
    exact ⟨zeroF, by rw [unhide HO]; rfl, (fun h => by rw [unhide HO] at h; cases h), below_set11 (unhide HB) (Nat.le_refl _) _ _ _ _ _ _ _ _ _ _ _⟩
  · rw [ho] at HPT
    have hpl := partP_len l
    have hpc := plC_len l
    have HCU := hide (fun w he => cutAt ⟨(partP l).toArray⟩ (partP l) 58 w rfl (by omega) he)
    have HF1 := hide (fun w => formed_val ⟨(plC l).1.toArray⟩ w (by show (plC l).1.length ≤ _; omega))
    have HF2 := hide (fun w => formed_val ⟨(plC l).2.1.toArray⟩ w (by show (plC l).2.1.length ≤ _; omega))
    have FO : Hid (formOk l = (ref1B (plC l).1 && (!(plC l).2.2 || ref1B (plC l).2.1))) := hide (by unfold formOk; rw [ho]; rfl)
    have FF : Hid (formF l = ⟨⟨(partB l).toArray⟩, ⟨(partS l).toArray⟩, ref1V (plC l).1, if (plC l).2.2 = true then ref1V (plC l).2.1 else zeroR, (plC l).2.2⟩) := hide rfl
    clear hz hpl hpc ho
    change Hid (∀ w : World, Env4 w → Calls Tryd.prog 58 #[.string ⟨(partP l).toArray⟩, .string ⟨#[58]⟩] w fun e w' => e = .returned (.tuple #[.string ⟨(plC l).1.toArray⟩, .string ⟨(plC l).2.1.toArray⟩, .bool (plC l).2.2]) ∧ Below w.heap.size w w') at HCU
    change Hid (∀ w : World, Calls Tryd.prog 47 #[.string ⟨(plC l).1.toArray⟩] w fun e w' => e = .returned (.tuple #[.agg (formV (plC l).1).cells, .bool (ref1B (plC l).1)]) ∧ Below w.heap.size w w') at HF1
    change Hid (∀ w : World, Calls Tryd.prog 47 #[.string ⟨(plC l).2.1.toArray⟩] w fun e w' => e = .returned (.tuple #[.agg (formV (plC l).2.1).cells, .bool (ref1B (plC l).2.1)]) ∧ Below w.heap.size w w') at HF2
    generalize plC l = pc at HCU HF1 HF2 FO FF
    obtain ⟨A, D, wd⟩ := pc
    simp only [] at HCU HF1 HF2 FO FF
    have HR1 : Hid (ref1B A = true → formV A = ref1V A) := hide (fun h => by unfold formV; rw [h]; rfl)
    have HR2 : Hid (ref1B D = true → formV D = ref1V D) := hide (fun h => by unfold formV; rw [h]; rfl)
    generalize (⟨(partB l).toArray⟩ : ByteArray) = Bk at HPT FF
    generalize (⟨(partS l).toArray⟩ : ByteArray) = Sh at HPT FF
    generalize (⟨(partP l).toArray⟩ : ByteArray) = Pl at HPT HCU
    generalize (⟨A.toArray⟩ : ByteArray) = A1 at HCU HF1
    generalize (⟨D.toArray⟩ : ByteArray) = D1 at HCU HF2
    cases h1 : ref1B A
    · rw [h1] at HF1 FO
      have HO : Hid (formOk l = false) := hide (by rw [unhide FO]; rfl)
      clear HR1 HR2 h1 HF2
      generalize formV A = r at HF1
      unfold Rf.cells at HF1
      go_enter Tryd.func49, Tryd.ntmps49
      go_upto_region 1 with fail
      have R := hide (cells_new w 31 #[.string ⟨#[]⟩, .string ⟨#[]⟩, .int .i64 0, .int .i64 0, .bool false, .bool false, .int .i64 0, .int .i64 0, .bool false, .bool false, .bool false])
      have HB : Hid (Below w.heap.size w (w.alloc (.cells #[.string ⟨#[]⟩, .string ⟨#[]⟩, .int .i64 0, .int .i64 0, .bool false, .bool false, .int .i64 0, .int .i64 0, .bool false, .bool false, .bool false] 31))) := hide (below_al _ _)
      generalize hW : w.alloc (.cells #[.string ⟨#[]⟩, .string ⟨#[]⟩, .int .i64 0, .int .i64 0, .bool false, .bool false, .int .i64 0, .int .i64 0, .bool false, .bool false, .bool false] 31) = W0 at R HB ⊢
      clear hW
      go_wp2_with fail
      refine (unhide HPT _ ((unhide HE).below (unhide HB))).mono ?_
      rintro e wp ⟨BB, SS, PP, rfl, hp, bp⟩
      replace R := hide (cells_nx (unhide R) bp)
      replace HB := hide (below_nx (unhide HB) bp)
      clear bp
      obtain ⟨rfl, rfl, rfl⟩ := hp trivial
      go_wp2_with fail
      refine (unhide HCU _ ((unhide HE).below (unhide HB))).mono ?_
      rintro e wk2 ⟨rfl, bk2⟩
      replace R := hide (cells_nx (unhide R) bk2)
      replace HB := hide (below_nx (unhide HB) bk2)
      clear bk2
      go_wp2_with fail
      refine (unhide HF1 _).mono ?_
      rintro e wk3 ⟨rfl, bk3⟩
      replace R := hide (cells_nx (unhide R) bk3)
      replace HB := hide (below_nx (unhide HB) bk3)
      clear bk3
      go_upto_region 6 with fail
      replace R := hide (cells_al (unhide R) (.cells #[.int .i64 r.col, .int .i64 r.row, .bool r.fc, .bool r.fr] 29))
      replace HB := hide ((unhide HB).alloc (unhide HB).size (.cells #[.int .i64 r.col, .int .i64 r.row, .bool r.fc, .bool r.fr] 29))
      generalize hW : wk3.alloc (.cells #[.int .i64 r.col, .int .i64 r.row, .bool r.fc, .bool r.fr] 29) = W1 at R HB ⊢
      clear hW
      obtain ⟨r_0, r_1, r_2, r_3, r_4, r_5, r_6, r_7, r_8, r_9, r_10⟩ := cells11 (unhide R)
      have fz_r_0 := cells_f (unhide R) 0
      have fz_r_1 := cells_f (unhide R) 1
      have fz_r_2 := cells_f (unhide R) 2
      have fz_r_3 := cells_f (unhide R) 3
      have fz_r_4 := cells_f (unhide R) 4
      have fz_r_5 := cells_f (unhide R) 5
      have fz_r_6 := cells_f (unhide R) 6
      have fz_r_7 := cells_f (unhide R) 7
      have fz_r_8 := cells_f (unhide R) 8
      have fz_r_9 := cells_f (unhide R) 9
      have fz_r_10 := cells_f (unhide R) 10
      go_wp2
      refine bodyPost_ret (results_c1t rfl _ _ _ _ _ _ rfl (cells_set11 (unhide R) _ _ _ _ _ _ _ _ _ _ _) Tryd.underlying31 rfl (by exact infoF) _ rfl) rfl ?_
      exact ⟨zeroF, by rw [unhide HO]; rfl, (fun h => by rw [unhide HO] at h; cases h), below_set11 (unhide HB) (Nat.le_refl _) _ _ _ _ _ _ _ _ _ _ _⟩
    · rw [h1] at HF1 FO
      rw [unhide HR1 h1] at HF1
      clear HR1 h1
      generalize ref1V A = r at HF1 FF
      cases wd
      · have HO : Hid (formOk l = true) := hide (by rw [unhide FO]; rfl)
        clear HR2 HF2
        unfold Rf.cells at HF1
        go_enter Tryd.func49, Tryd.ntmps49
        go_upto_region 1 with fail
        have R := hide (cells_new w 31 #[.string ⟨#[]⟩, .string ⟨#[]⟩, .int .i64 0, .int .i64 0, .bool false, .bool false, .int .i64 0, .int .i64 0, .bool false, .bool false, .bool false])
        have HB : Hid (Below w.heap.size w (w.alloc (.cells #[.string ⟨#[]⟩, .string ⟨#[]⟩, .int .i64 0, .int .i64 0, .bool false, .bool false, .int .i64 0, .int .i64 0, .bool false, .bool false, .bool false] 31))) := hide (below_al _ _)
        generalize hW : w.alloc (.cells #[.string ⟨#[]⟩, .string ⟨#[]⟩, .int .i64 0, .int .i64 0, .bool false, .bool false, .int .i64 0, .int .i64 0, .bool false, .bool false, .bool false] 31) = W0 at R HB ⊢
        clear hW
        go_wp2_with fail
        refine (unhide HPT _ ((unhide HE).below (unhide HB))).mono ?_
        rintro e wp ⟨BB, SS, PP, rfl, hp, bp⟩
        replace R := hide (cells_nx (unhide R) bp)
        replace HB := hide (below_nx (unhide HB) bp)
        clear bp
        obtain ⟨rfl, rfl, rfl⟩ := hp trivial
        go_wp2_with fail
        refine (unhide HCU _ ((unhide HE).below (unhide HB))).mono ?_
        rintro e wk2 ⟨rfl, bk2⟩
        replace R := hide (cells_nx (unhide R) bk2)
        replace HB := hide (below_nx (unhide HB) bk2)
        clear bk2
        go_wp2_with fail
        refine (unhide HF1 _).mono ?_
        rintro e wk3 ⟨rfl, bk3⟩
        replace R := hide (cells_nx (unhide R) bk3)
        replace HB := hide (below_nx (unhide HB) bk3)
        clear bk3
        have hlt := cells_lt (unhide R)
        go_upto_region 9 with fail
        have V := hide (cells_new2 wk3 (.cells #[.int .i64 r.col, .int .i64 r.row, .bool r.fc, .bool r.fr] 29) 31 #[.string BB, .string SS, .int .i64 r.col, .int .i64 r.row, .bool r.fc, .bool r.fr, .int .i64 0, .int .i64 0, .bool false, .bool false, .bool false])
        replace R := hide (cells_al (cells_al (unhide R) (.cells #[.int .i64 r.col, .int .i64 r.row, .bool r.fc, .bool r.fr] 29)) (.cells #[.string BB, .string SS, .int .i64 r.col, .int .i64 r.row, .bool r.fc, .bool r.fr, .int .i64 0, .int .i64 0, .bool false, .bool false, .bool false] 31))
        replace HB := hide (((unhide HB).alloc (unhide HB).size (.cells #[.int .i64 r.col, .int .i64 r.row, .bool r.fc, .bool r.fr] 29)).alloc (by have := (unhide HB).size; simp; omega) (.cells #[.string BB, .string SS, .int .i64 r.col, .int .i64 r.row, .bool r.fc, .bool r.fr, .int .i64 0, .int .i64 0, .bool false, .bool false, .bool false] 31))
        generalize hW : (wk3.alloc (.cells #[.int .i64 r.col, .int .i64 r.row, .bool r.fc, .bool r.fr] 29)).alloc (.cells #[.string BB, .string SS, .int .i64 r.col, .int .i64 r.row, .bool r.fc, .bool r.fr, .int .i64 0, .int .i64 0, .bool false, .bool false, .bool false] 31) = W1 at R V HB ⊢
        clear hW
        have hne : w.heap.size ≠ wk3.heap.size + 1 := by omega
        obtain ⟨v_0, v_1, v_2, v_3, v_4, v_5, v_6, v_7, v_8, v_9, v_10⟩ := cells11 (unhide V)
        obtain ⟨r_0, r_1, r_2, r_3, r_4, r_5, r_6, r_7, r_8, r_9, r_10⟩ := cells11 (unhide R)
        have fz_r_0 := cells_f (unhide R) 0
        have fz_r_1 := cells_f (unhide R) 1
        have fz_r_2 := cells_f (unhide R) 2
        have fz_r_3 := cells_f (unhide R) 3
        have fz_r_4 := cells_f (unhide R) 4
        have fz_r_5 := cells_f (unhide R) 5
        have fz_r_6 := cells_f (unhide R) 6
        have fz_r_7 := cells_f (unhide R) 7
        have fz_r_8 := cells_f (unhide R) 8
        have fz_r_9 := cells_f (unhide R) 9
        have fz_r_10 := cells_f (unhide R) 10
        go_wp2
        refine bodyPost_ret (results_c1t rfl _ _ _ _ _ _ rfl (cells_set11 (unhide R) _ _ _ _ _ _ _ _ _ _ _) Tryd.underlying31 rfl (by exact infoF) _ rfl) rfl ?_
        exact ⟨⟨BB, SS, r, zeroR, false⟩, by rw [unhide HO]; rfl, (fun _ => by rw [unhide FF]; rfl), below_set11 (unhide HB) (Nat.le_refl _) _ _ _ _ _ _ _ _ _ _ _⟩
      · generalize hqq : formV D = q at HF2 HR2
        clear hqq
        have HQ : Hid (ref1B D = true → ref1V D = q) := hide (fun h => (unhide HR2 h).symm)
        rw [if_pos rfl] at FF
        clear HR2
        cases h2 : ref1B D
        · have HO : Hid (formOk l = false) := hide (by rw [unhide FO, h2]; rfl)
          rw [h2] at HF2
          clear h2
          unfold Rf.cells at HF1 HF2
          go_enter Tryd.func49, Tryd.ntmps49
          go_upto_region 1 with fail
          have R := hide (cells_new w 31 #[.string ⟨#[]⟩, .string ⟨#[]⟩, .int .i64 0, .int .i64 0, .bool false, .bool false, .int .i64 0, .int .i64 0, .bool false, .bool false, .bool false])
          have HB : Hid (Below w.heap.size w (w.alloc (.cells #[.string ⟨#[]⟩, .string ⟨#[]⟩, .int .i64 0, .int .i64 0, .bool false, .bool false, .int .i64 0, .int .i64 0, .bool false, .bool false, .bool false] 31))) := hide (below_al _ _)
          generalize hW : w.alloc (.cells #[.string ⟨#[]⟩, .string ⟨#[]⟩, .int .i64 0, .int .i64 0, .bool false, .bool false, .int .i64 0, .int .i64 0, .bool false, .bool false, .bool false] 31) = W0 at R HB ⊢
          clear hW
          go_wp2_with fail
          refine (unhide HPT _ ((unhide HE).below (unhide HB))).mono ?_
          rintro e wp ⟨BB, SS, PP, rfl, hp, bp⟩
          replace R := hide (cells_nx (unhide R) bp)
          replace HB := hide (below_nx (unhide HB) bp)
          clear bp
          obtain ⟨rfl, rfl, rfl⟩ := hp trivial
          go_wp2_with fail
          refine (unhide HCU _ ((unhide HE).below (unhide HB))).mono ?_
          rintro e wk2 ⟨rfl, bk2⟩
          replace R := hide (cells_nx (unhide R) bk2)
          replace HB := hide (below_nx (unhide HB) bk2)
          clear bk2
          go_wp2_with fail
          refine (unhide HF1 _).mono ?_
          rintro e wk3 ⟨rfl, bk3⟩
          replace R := hide (cells_nx (unhide R) bk3)
          replace HB := hide (below_nx (unhide HB) bk3)
          clear bk3
          have hlt := cells_lt (unhide R)
          go_upto_region 9 with fail
          have V := hide (cells_new2 wk3 (.cells #[.int .i64 r.col, .int .i64 r.row, .bool r.fc, .bool r.fr] 29) 31 #[.string BB, .string SS, .int .i64 r.col, .int .i64 r.row, .bool r.fc, .bool r.fr, .int .i64 0, .int .i64 0, .bool false, .bool false, .bool true])
          replace R := hide (cells_al (cells_al (unhide R) (.cells #[.int .i64 r.col, .int .i64 r.row, .bool r.fc, .bool r.fr] 29)) (.cells #[.string BB, .string SS, .int .i64 r.col, .int .i64 r.row, .bool r.fc, .bool r.fr, .int .i64 0, .int .i64 0, .bool false, .bool false, .bool true] 31))
          replace HB := hide (((unhide HB).alloc (unhide HB).size (.cells #[.int .i64 r.col, .int .i64 r.row, .bool r.fc, .bool r.fr] 29)).alloc (by have := (unhide HB).size; simp; omega) (.cells #[.string BB, .string SS, .int .i64 r.col, .int .i64 r.row, .bool r.fc, .bool r.fr, .int .i64 0, .int .i64 0, .bool false, .bool false, .bool true] 31))
          generalize hW : (wk3.alloc (.cells #[.int .i64 r.col, .int .i64 r.row, .bool r.fc, .bool r.fr] 29)).alloc (.cells #[.string BB, .string SS, .int .i64 r.col, .int .i64 r.row, .bool r.fc, .bool r.fr, .int .i64 0, .int .i64 0, .bool false, .bool false, .bool true] 31) = W1 at R V HB ⊢
          clear hW
          have hne : w.heap.size ≠ wk3.heap.size + 1 := by omega
          go_wp2_with fail
          refine (unhide HF2 _).mono ?_
          rintro e wk4 ⟨rfl, bk4⟩
          replace R := hide (cells_nx (unhide R) bk4)
          replace V := hide (cells_nx (unhide V) bk4)
          replace HB := hide (below_nx (unhide HB) bk4)
          clear bk4
          obtain ⟨v_0, v_1, v_2, v_3, v_4, v_5, v_6, v_7, v_8, v_9, v_10⟩ := cells11 (unhide V)
          have fz_v_6 := cells_f (unhide V) 6
          have fz_v_7 := cells_f (unhide V) 7
          have fz_v_8 := cells_f (unhide V) 8
          have fz_v_9 := cells_f (unhide V) 9
          go_upto_region 11 with fail
          clear v_0 v_1 v_2 v_3 v_4 v_5 v_6 v_7 v_8 v_9 v_10
          clear fz_v_6 fz_v_7 fz_v_8 fz_v_9
          replace V := hide (cells_set (cells_set (cells_set (cells_set (unhide V) 6 (.int .i64 q.col)) 7 (.int .i64 q.row)) 8 (.bool q.fc)) 9 (.bool q.fr))
          replace R := hide (cells_set_far (cells_set_far (cells_set_far (cells_set_far (unhide R) hne 6 (.int .i64 q.col)) hne 7 (.int .i64 q.row)) hne 8 (.bool q.fc)) hne 9 (.bool q.fr))
          replace HB := hide (below_set (B := wk3.heap.size + 1) (i := 9) (below_set (B := wk3.heap.size + 1) (i := 8) (below_set (B := wk3.heap.size + 1) (i := 7) (below_set (B := wk3.heap.size + 1) (i := 6) (unhide HB) (by omega) (.int .i64 q.col)) (by omega) (.int .i64 q.row)) (by omega) (.bool q.fc)) (by omega) (.bool q.fr))
          generalize hW : (((wk4.setCell ⟨wk3.heap.size + 1, 6, none⟩ (.int .i64 q.col)).setCell ⟨wk3.heap.size + 1, 7, none⟩ (.int .i64 q.row)).setCell ⟨wk3.heap.size + 1, 8, none⟩ (.bool q.fc)).setCell ⟨wk3.heap.size + 1, 9, none⟩ (.bool q.fr) = W2 at R V HB ⊢
          clear hW
          replace V : Hid (CellsAt W2 (wk3.heap.size + 1) 31 #[.string BB, .string SS, .int .i64 r.col, .int .i64 r.row, .bool r.fc, .bool r.fr, .int .i64 q.col, .int .i64 q.row, .bool q.fc, .bool q.fr, .bool true]) := V
          obtain ⟨v_0, v_1, v_2, v_3, v_4, v_5, v_6, v_7, v_8, v_9, v_10⟩ := cells11 (unhide V)
          obtain ⟨r_0, r_1, r_2, r_3, r_4, r_5, r_6, r_7, r_8, r_9, r_10⟩ := cells11 (unhide R)
          have fz_r_0 := cells_f (unhide R) 0
          have fz_r_1 := cells_f (unhide R) 1
          have fz_r_2 := cells_f (unhide R) 2
          have fz_r_3 := cells_f (unhide R) 3
          have fz_r_4 := cells_f (unhide R) 4
          have fz_r_5 := cells_f (unhide R) 5
          have fz_r_6 := cells_f (unhide R) 6
          have fz_r_7 := cells_f (unhide R) 7
          have fz_r_8 := cells_f (unhide R) 8
          have fz_r_9 := cells_f (unhide R) 9
          have fz_r_10 := cells_f (unhide R) 10
          go_wp2
          refine bodyPost_ret (results_c1t rfl _ _ _ _ _ _ rfl (cells_set11 (unhide R) _ _ _ _ _ _ _ _ _ _ _) Tryd.underlying31 rfl (by exact infoF) _ rfl) rfl ?_
          exact ⟨⟨BB, SS, r, q, true⟩, by rw [unhide HO]; rfl, (fun h => by rw [unhide HO] at h; cases h), below_set11 (unhide HB) (Nat.le_refl _) _ _ _ _ _ _ _ _ _ _ _⟩
        · have HO : Hid (formOk l = true) := hide (by rw [unhide FO, h2]; rfl)
          have HOO : Hid (formOk l = ref1B D) := hide (by rw [unhide FO]; simp)
          rw [h2] at HF2
          clear h2
          unfold Rf.cells at HF1 HF2
          go_enter Tryd.func49, Tryd.ntmps49
          go_upto_region 1 with fail
          have R := hide (cells_new w 31 #[.string ⟨#[]⟩, .string ⟨#[]⟩, .int .i64 0, .int .i64 0, .bool false, .bool false, .int .i64 0, .int .i64 0, .bool false, .bool false, .bool false])
          have HB : Hid (Below w.heap.size w (w.alloc (.cells #[.string ⟨#[]⟩, .string ⟨#[]⟩, .int .i64 0, .int .i64 0, .bool false, .bool false, .int .i64 0, .int .i64 0, .bool false, .bool false, .bool false] 31))) := hide (below_al _ _)
          generalize hW : w.alloc (.cells #[.string ⟨#[]⟩, .string ⟨#[]⟩, .int .i64 0, .int .i64 0, .bool false, .bool false, .int .i64 0, .int .i64 0, .bool false, .bool false, .bool false] 31) = W0 at R HB ⊢
          clear hW
          go_wp2_with fail
          refine (unhide HPT _ ((unhide HE).below (unhide HB))).mono ?_
          rintro e wp ⟨BB, SS, PP, rfl, hp, bp⟩
          replace R := hide (cells_nx (unhide R) bp)
          replace HB := hide (below_nx (unhide HB) bp)
          clear bp
          obtain ⟨rfl, rfl, rfl⟩ := hp trivial
          go_wp2_with fail
          refine (unhide HCU _ ((unhide HE).below (unhide HB))).mono ?_
          rintro e wk2 ⟨rfl, bk2⟩
          replace R := hide (cells_nx (unhide R) bk2)
          replace HB := hide (below_nx (unhide HB) bk2)
          clear bk2
          go_wp2_with fail
          refine (unhide HF1 _).mono ?_
          rintro e wk3 ⟨rfl, bk3⟩
          replace R := hide (cells_nx (unhide R) bk3)
          replace HB := hide (below_nx (unhide HB) bk3)
          clear bk3
          have hlt := cells_lt (unhide R)
          go_upto_region 9 with fail
          have V := hide (cells_new2 wk3 (.cells #[.int .i64 r.col, .int .i64 r.row, .bool r.fc, .bool r.fr] 29) 31 #[.string BB, .string SS, .int .i64 r.col, .int .i64 r.row, .bool r.fc, .bool r.fr, .int .i64 0, .int .i64 0, .bool false, .bool false, .bool true])
          replace R := hide (cells_al (cells_al (unhide R) (.cells #[.int .i64 r.col, .int .i64 r.row, .bool r.fc, .bool r.fr] 29)) (.cells #[.string BB, .string SS, .int .i64 r.col, .int .i64 r.row, .bool r.fc, .bool r.fr, .int .i64 0, .int .i64 0, .bool false, .bool false, .bool true] 31))
          replace HB := hide (((unhide HB).alloc (unhide HB).size (.cells #[.int .i64 r.col, .int .i64 r.row, .bool r.fc, .bool r.fr] 29)).alloc (by have := (unhide HB).size; simp; omega) (.cells #[.string BB, .string SS, .int .i64 r.col, .int .i64 r.row, .bool r.fc, .bool r.fr, .int .i64 0, .int .i64 0, .bool false, .bool false, .bool true] 31))
          generalize hW : (wk3.alloc (.cells #[.int .i64 r.col, .int .i64 r.row, .bool r.fc, .bool r.fr] 29)).alloc (.cells #[.string BB, .string SS, .int .i64 r.col, .int .i64 r.row, .bool r.fc, .bool r.fr, .int .i64 0, .int .i64 0, .bool false, .bool false, .bool true] 31) = W1 at R V HB ⊢
          clear hW
          have hne : w.heap.size ≠ wk3.heap.size + 1 := by omega
          go_wp2_with fail
          refine (unhide HF2 _).mono ?_
          rintro e wk4 ⟨rfl, bk4⟩
          replace R := hide (cells_nx (unhide R) bk4)
          replace V := hide (cells_nx (unhide V) bk4)
          replace HB := hide (below_nx (unhide HB) bk4)
          clear bk4
          obtain ⟨v_0, v_1, v_2, v_3, v_4, v_5, v_6, v_7, v_8, v_9, v_10⟩ := cells11 (unhide V)
          have fz_v_6 := cells_f (unhide V) 6
          have fz_v_7 := cells_f (unhide V) 7
          have fz_v_8 := cells_f (unhide V) 8
          have fz_v_9 := cells_f (unhide V) 9
          go_upto_region 11 with fail
          clear v_0 v_1 v_2 v_3 v_4 v_5 v_6 v_7 v_8 v_9 v_10
          clear fz_v_6 fz_v_7 fz_v_8 fz_v_9
          replace V := hide (cells_set (cells_set (cells_set (cells_set (unhide V) 6 (.int .i64 q.col)) 7 (.int .i64 q.row)) 8 (.bool q.fc)) 9 (.bool q.fr))
          replace R := hide (cells_set_far (cells_set_far (cells_set_far (cells_set_far (unhide R) hne 6 (.int .i64 q.col)) hne 7 (.int .i64 q.row)) hne 8 (.bool q.fc)) hne 9 (.bool q.fr))
          replace HB := hide (below_set (B := wk3.heap.size + 1) (i := 9) (below_set (B := wk3.heap.size + 1) (i := 8) (below_set (B := wk3.heap.size + 1) (i := 7) (below_set (B := wk3.heap.size + 1) (i := 6) (unhide HB) (by omega) (.int .i64 q.col)) (by omega) (.int .i64 q.row)) (by omega) (.bool q.fc)) (by omega) (.bool q.fr))
          generalize hW : (((wk4.setCell ⟨wk3.heap.size + 1, 6, none⟩ (.int .i64 q.col)).setCell ⟨wk3.heap.size + 1, 7, none⟩ (.int .i64 q.row)).setCell ⟨wk3.heap.size + 1, 8, none⟩ (.bool q.fc)).setCell ⟨wk3.heap.size + 1, 9, none⟩ (.bool q.fr) = W2 at R V HB ⊢
          clear hW
          replace V : Hid (CellsAt W2 (wk3.heap.size + 1) 31 #[.string BB, .string SS, .int .i64 r.col, .int .i64 r.row, .bool r.fc, .bool r.fr, .int .i64 q.col, .int .i64 q.row, .bool q.fc, .bool q.fr, .bool true]) := V
          obtain ⟨v_0, v_1, v_2, v_3, v_4, v_5, v_6, v_7, v_8, v_9, v_10⟩ := cells11 (unhide V)
          obtain ⟨r_0, r_1, r_2, r_3, r_4, r_5, r_6, r_7, r_8, r_9, r_10⟩ := cells11 (unhide R)
          have fz_r_0 := cells_f (unhide R) 0
          have fz_r_1 := cells_f (unhide R) 1
          have fz_r_2 := cells_f (unhide R) 2
          have fz_r_3 := cells_f (unhide R) 3
          have fz_r_4 := cells_f (unhide R) 4
          have fz_r_5 := cells_f (unhide R) 5
          have fz_r_6 := cells_f (unhide R) 6
          have fz_r_7 := cells_f (unhide R) 7
          have fz_r_8 := cells_f (unhide R) 8
          have fz_r_9 := cells_f (unhide R) 9
          have fz_r_10 := cells_f (unhide R) 10
          go_wp2
          refine bodyPost_ret (results_c1t rfl _ _ _ _ _ _ rfl (cells_set11 (unhide R) _ _ _ _ _ _ _ _ _ _ _) Tryd.underlying31 rfl (by exact infoF) _ rfl) rfl ?_
          exact ⟨⟨BB, SS, r, q, true⟩, by rw [unhide HO]; rfl, (fun _ => by rw [unhide FF, unhide HQ (by first | rfl | (have h := unhide HO; rw [unhide HOO] at h; exact h))]), below_set11 (unhide HB) (Nat.le_refl _) _ _ _ _ _ _ _ _ _ _ _⟩
end Go.Proofs.YtlgmpoofcdkaeaaDoor
