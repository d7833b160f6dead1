/- The contracts of formedFull and Parse. -/
import Derived.BigQuiet
import Derived.BigRegion
import Derived.Deep.CutBlock
import Derived.Deep.CutRange
import Derived.Deep.QuietTactic
import Derived.Deep.RegionHeld3
import Derived.Laws.IdiomStrings
import Derived.Laws.Rows
import Derived.Laws.StructEq
import Derived.Lib.Atoi
import Derived.Lib.AtoiErrMem
import Derived.Lib.CutLaws
import Derived.Lib.IndexMore
import Derived.Lib.ItoaMem
import Derived.Lib.ItoaNum
import Derived.Shelf.Bits.Mul64
import Derived.Shelf.LaysM
import Derived.Shelf.Small.Bits
import Derived.Shelf.Small.Strs
import Derived.Shelf.Small.Utf8
import Derived.Shelf.Small.Wraps
import Derived.Shelf.Strconv.Atoi
import Derived.Shelf.Strconv.Itoa0
import Derived.Shelf.Strconv.Itoa1
import Derived.Shelf.Strconv.Itoa2
import Derived.Shelf.Strconv.Itoa3
import Derived.Shelf.Strings.AsciiSet
import Derived.Shelf.Strings.Builder1
import Derived.Shelf.Strings.Builder2
import Derived.Shelf.Strings.Count
import Derived.Shelf.Strings.Cut
import Derived.Shelf.Strings.OnBuilder
import Derived.Shelf.Strings.Prefix
import Derived.Shelf.Strings.Replace
import Derived.Shelf.Strings.Runes
import Derived.Shelf.Strings.Search1
import Derived.Shelf.Strings.Search2
import Derived.Shelf.Strings.Search3
import Derived.Shelf.Strings.Shaped
import Derived.Shelf.Strings.Split
import Derived.Shelf.Strings.SplitShaped
import Derived.Shelf.Strings.Trim
import Derived.Shelf.Unicode.DecodeSlow
import Derived.Test.YtloamahbghjjgaaGreatDoorProg
import Derived.Test.YtloamahbghjjgaaGreatDoorRows
import Derived.WalkKit
import Derived.WalkLawsBesides
import Derived.WalkSmall
import Derived.WalkSpells
import Derived.Test.YtloamahbghjjgaaGreatDoorZgAA
import Derived.Test.YtloamahbghjjgaaGreatDoorZgAC
import Derived.Test.YtloamahbghjjgaaGreatDoorZgAE
import Derived.Test.YtloamahbghjjgaaGreatDoorZgAF
import Derived.Test.YtloamahbghjjgaaGreatDoorZgAG
import Derived.Test.YtloamahbghjjgaaGreatDoorZgAH
import Derived.Test.YtloamahbghjjgaaGreatDoorZgAI
namespace Go.Proofs.YtloamahbghjjgaaGreatDoor
open Go.RowKit

theorem infoF : (Tryz.prog.info? 52).map (·.size) = some 11 := by kernel_rfl
theorem cells_set11 {w : World} {B : Nat} {t : TypeId} {y0 y1 y2 y3 y4 y5 y6 y7 y8 y9 y10 : Value} (h : CellsAt w B t #[y0, y1, y2, y3, y4, y5, y6, y7, y8, y9, y10]) (x0 x1 x2 x3 x4 x5 x6 x7 x8 x9 x10 : Value) : CellsAt (((((((((((w.setCell ⟨B, 0, none⟩ x0).setCell ⟨B, 1, none⟩ x1).setCell ⟨B, 2, none⟩ x2).setCell ⟨B, 3, none⟩ x3).setCell ⟨B, 4, none⟩ x4).setCell ⟨B, 5, none⟩ x5).setCell ⟨B, 6, none⟩ x6).setCell ⟨B, 7, none⟩ x7).setCell ⟨B, 8, none⟩ x8).setCell ⟨B, 9, none⟩ x9).setCell ⟨B, 10, none⟩ x10) B t #[x0, x1, x2, x3, x4, x5, x6, x7, x8, x9, x10] := by
  have h0 : CellsAt (w.setCell ⟨B, 0, none⟩ x0) B t #[x0, y1, y2, y3, y4, y5, y6, y7, y8, y9, y10] := cells_set h 0 x0
  have h1 : CellsAt ((w.setCell ⟨B, 0, none⟩ x0).setCell ⟨B, 1, none⟩ x1) B t #[x0, x1, y2, y3, y4, y5, y6, y7, y8, y9, y10] := cells_set h0 1 x1
  have h2 : CellsAt (((w.setCell ⟨B, 0, none⟩ x0).setCell ⟨B, 1, none⟩ x1).setCell ⟨B, 2, none⟩ x2) B t #[x0, x1, x2, y3, y4, y5, y6, y7, y8, y9, y10] := cells_set h1 2 x2
  have h3 : CellsAt ((((w.setCell ⟨B, 0, none⟩ x0).setCell ⟨B, 1, none⟩ x1).setCell ⟨B, 2, none⟩ x2).setCell ⟨B, 3, none⟩ x3) B t #[x0, x1, x2, x3, y4, y5, y6, y7, y8, y9, y10] := cells_set h2 3 x3
  have h4 : CellsAt (((((w.setCell ⟨B, 0, none⟩ x0).setCell ⟨B, 1, none⟩ x1).setCell ⟨B, 2, none⟩ x2).setCell ⟨B, 3, none⟩ x3).setCell ⟨B, 4, none⟩ x4) B t #[x0, x1, x2, x3, x4, y5, y6, y7, y8, y9, y10] := cells_set h3 4 x4
  have h5 : CellsAt ((((((w.setCell ⟨B, 0, none⟩ x0).setCell ⟨B, 1, none⟩ x1).setCell ⟨B, 2, none⟩ x2).setCell ⟨B, 3, none⟩ x3).setCell ⟨B, 4, none⟩ x4).setCell ⟨B, 5, none⟩ x5) B t #[x0, x1, x2, x3, x4, x5, y6, y7, y8, y9, y10] := cells_set h4 5 x5
  have h6 : CellsAt (((((((w.setCell ⟨B, 0, none⟩ x0).setCell ⟨B, 1, none⟩ x1).setCell ⟨B, 2, none⟩ x2).setCell ⟨B, 3, none⟩ x3).setCell ⟨B, 4, none⟩ x4).setCell ⟨B, 5, none⟩ x5).setCell ⟨B, 6, none⟩ x6) B t #[x0, x1, x2, x3, x4, x5, x6, y7, y8, y9, y10] := cells_set h5 6 x6
  have h7 : CellsAt ((((((((w.setCell ⟨B, 0, none⟩ x0).setCell ⟨B, 1, none⟩ x1).setCell ⟨B, 2, none⟩ x2).setCell ⟨B, 3, none⟩ x3).setCell ⟨B, 4, none⟩ x4).setCell ⟨B, 5, none⟩ x5).setCell ⟨B, 6, none⟩ x6).setCell ⟨B, 7, none⟩ x7) B t #[x0, x1, x2, x3, x4, x5, x6, x7, y8, y9, y10] := cells_set h6 7 x7
  have h8 : CellsAt (((((((((w.setCell ⟨B, 0, none⟩ x0).setCell ⟨B, 1, none⟩ x1).setCell ⟨B, 2, none⟩ x2).setCell ⟨B, 3, none⟩ x3).setCell ⟨B, 4, none⟩ x4).setCell ⟨B, 5, none⟩ x5).setCell ⟨B, 6, none⟩ x6).setCell ⟨B, 7, none⟩ x7).setCell ⟨B, 8, none⟩ x8) B t #[x0, x1, x2, x3, x4, x5, x6, x7, x8, y9, y10] := cells_set h7 8 x8
  have h9 : CellsAt ((((((((((w.setCell ⟨B, 0, none⟩ x0).setCell ⟨B, 1, none⟩ x1).setCell ⟨B, 2, none⟩ x2).setCell ⟨B, 3, none⟩ x3).setCell ⟨B, 4, none⟩ x4).setCell ⟨B, 5, none⟩ x5).setCell ⟨B, 6, none⟩ x6).setCell ⟨B, 7, none⟩ x7).setCell ⟨B, 8, none⟩ x8).setCell ⟨B, 9, none⟩ x9) B t #[x0, x1, x2, x3, x4, x5, x6, x7, x8, x9, y10] := cells_set h8 9 x9
  have h10 : CellsAt (((((((((((w.setCell ⟨B, 0, none⟩ x0).setCell ⟨B, 1, none⟩ x1).setCell ⟨B, 2, none⟩ x2).setCell ⟨B, 3, none⟩ x3).setCell ⟨B, 4, none⟩ x4).setCell ⟨B, 5, none⟩ x5).setCell ⟨B, 6, none⟩ x6).setCell ⟨B, 7, none⟩ x7).setCell ⟨B, 8, none⟩ x8).setCell ⟨B, 9, none⟩ x9).setCell ⟨B, 10, none⟩ x10) B t #[x0, x1, x2, x3, x4, x5, x6, x7, x8, x9, x10] := cells_set h9 10 x10
  exact h10
theorem below_set11 {w a : World} {N B : Nat} (h : Below N w a) (hB : N ≤ B) (x0 x1 x2 x3 x4 x5 x6 x7 x8 x9 x10 : Value) : Below N w (((((((((((a.setCell ⟨B, 0, none⟩ x0).setCell ⟨B, 1, none⟩ x1).setCell ⟨B, 2, none⟩ x2).setCell ⟨B, 3, none⟩ x3).setCell ⟨B, 4, none⟩ x4).setCell ⟨B, 5, none⟩ x5).setCell ⟨B, 6, none⟩ x6).setCell ⟨B, 7, none⟩ x7).setCell ⟨B, 8, none⟩ x8).setCell ⟨B, 9, none⟩ x9).setCell ⟨B, 10, none⟩ x10) :=
  below_set (below_set (below_set (below_set (below_set (below_set (below_set (below_set (below_set (below_set (below_set (h) hB x0) hB x1) hB x2) hB x3) hB x4) hB x5) hB x6) hB x7) hB x8) hB x9) hB x10
def FormPost (l : List UInt8) (w : World) (e : Ending) (w' : World) : Prop :=
  ∃ F : Fl, e = .returned (.tuple #[.agg F.cells, .bool (formOk l)]) ∧ (formOk l = true → F = formF l) ∧ Below w.heap.size w w'
theorem plC_len (l : List UInt8) : (plC l).1.length ≤ l.length ∧ (plC l).2.1.length ≤ l.length := by
  have h := partP_len l
  have h2 := cut_le (partP l) 58
  unfold plC
  omega

set_option maxRecDepth 100000 in
set_option maxHeartbeats 8000000 in
theorem formedFull_val (s : ByteArray) (w : World) (hs : s.size < 4294967281) (he : Env4 w) :
    Calls Tryz.prog 187 #[.string s] w fun e w' => FormPost s.data.toList w e w' := by
  obtain ⟨l, hl⟩ : ∃ l, s.data.toList = l := ⟨_, rfl⟩
  have hz : l.length < 4294967281 := by rw [← hl]; exact hs
  have HPT := hide (fun w he => parted_val s w hs he)
  rw [hl] at HPT ⊢
  have HE := hide he
  clear he hs hl
  unfold PartPost at HPT
  cases ho : partOk l
  · rw [ho] at HPT
    have HO : Hid (formOk l = false) := hide (by unfold formOk; rw [ho]; rfl)
    clear ho hz
    go_enter Tryz.func187, Tryz.ntmps187
    go_upto_region 1 with fail
    have R := hide (cells_new w 52 #[.string ⟨#[]⟩, .string ⟨#[]⟩, .int .i64 0, .int .i64 0, .bool false, .bool false, .int .i64 0, .int .i64 0, .bool false, .bool false, .bool false])
    have HB : Hid (Below w.heap.size w (w.alloc (.cells #[.string ⟨#[]⟩, .string ⟨#[]⟩, .int .i64 0, .int .i64 0, .bool false, .bool false, .int .i64 0, .int .i64 0, .bool false, .bool false, .bool false] 52))) := hide (below_al _ _)
    generalize hW : w.alloc (.cells #[.string ⟨#[]⟩, .string ⟨#[]⟩, .int .i64 0, .int .i64 0, .bool false, .bool false, .int .i64 0, .int .i64 0, .bool false, .bool false, .bool false] 52) = W0 at R HB ⊢
    clear hW
    go_wp2_with fail
    refine (unhide HPT _ ((unhide HE).below (unhide HB))).mono ?_
    rintro e wp ⟨BB, SS, PP, rfl, hp, bp⟩
    replace R := hide (cells_nx (unhide R) bp)
    replace HB := hide (below_nx (unhide HB) bp)
    clear bp
    clear hp
    obtain ⟨r_0, r_1, r_2, r_3, r_4, r_5, r_6, r_7, r_8, r_9, r_10⟩ := cells11 (unhide R)
    have fz_r_0 := cells_f (unhide R) 0
    have fz_r_1 := cells_f (unhide R) 1
    have fz_r_2 := cells_f (unhide R) 2
    have fz_r_3 := cells_f (unhide R) 3
    have fz_r_4 := cells_f (unhide R) 4
    have fz_r_5 := cells_f (unhide R) 5
    have fz_r_6 := cells_f (unhide R) 6
    have fz_r_7 := cells_f (unhide R) 7
    have fz_r_8 := cells_f (unhide R) 8
    have fz_r_9 := cells_f (unhide R) 9
    have fz_r_10 := cells_f (unhide R) 10
    go_wp2
    refine bodyPost_ret (results_c1t rfl _ _ _ _ _ _ rfl (cells_set11 (unhide R) _ _ _ _ _ _ _ _ _ _ _) Tryz.underlying52 rfl (by exact infoF) _ rfl) rfl ?_
    exact ⟨zeroF, by rw [unhide HO]; rfl, (fun h => by rw [unhide HO] at h; cases h), below_set11 (unhide HB) (Nat.le_refl _) _ _ _ _ _ _ _ _ _ _ _⟩
  · rw [ho] at HPT
    have hpl := partP_len l
    have hpc := plC_len l
    have HCU := hide (fun w he => cutAt ⟨(partP l).toArray⟩ (partP l) 58 w rfl (by omega) he)
    have HF1 := hide (fun w => formed_val ⟨(plC l).1.toArray⟩ w (by show (plC l).1.length ≤ _; omega))
    have HF2 := hide (fun w => formed_val ⟨(plC l).2.1.toArray⟩ w (by show (plC l).2.1.length ≤ _; omega))
    have FO : Hid (formOk l = (ref1B (plC l).1 && (!(plC l).2.2 || ref1B (plC l).2.1))) := hide (by unfold formOk; rw [ho]; rfl)
    have FF : Hid (formF l = ⟨⟨(partB l).toArray⟩, ⟨(partS l).toArray⟩, ref1V (plC l).1, if (plC l).2.2 = true then ref1V (plC l).2.1 else zeroR, (plC l).2.2⟩) := hide rfl
    clear hz hpl hpc ho
    change Hid (∀ w : World, Env4 w → Calls Tryz.prog 178 #[.string ⟨(partP l).toArray⟩, .string ⟨#[58]⟩] w fun e w' => e = .returned (.tuple #[.string ⟨(plC l).1.toArray⟩, .string ⟨(plC l).2.1.toArray⟩, .bool (plC l).2.2]) ∧ Below w.heap.size w w') at HCU
    change Hid (∀ w : World, Calls Tryz.prog 217 #[.string ⟨(plC l).1.toArray⟩] w fun e w' => e = .returned (.tuple #[.agg (formV (plC l).1).cells, .bool (ref1B (plC l).1)]) ∧ Below w.heap.size w w') at HF1
    change Hid (∀ w : World, Calls Tryz.prog 217 #[.string ⟨(plC l).2.1.toArray⟩] w fun e w' => e = .returned (.tuple #[.agg (formV (plC l).2.1).cells, .bool (ref1B (plC l).2.1)]) ∧ Below w.heap.size w w') at HF2
    generalize plC l = pc at HCU HF1 HF2 FO FF
    obtain ⟨A, D, wd⟩ := pc
    simp only [] at HCU HF1 HF2 FO FF
    have HR1 : Hid (ref1B A = true → formV A = ref1V A) := hide (fun h => by unfold formV; rw [h]; rfl)
    have HR2 : Hid (ref1B D = true → formV D = ref1V D) := hide (fun h => by unfold formV; rw [h]; rfl)
    generalize (⟨(partB l).toArray⟩ : ByteArray) = Bk at HPT FF
    generalize (⟨(partS l).toArray⟩ : ByteArray) = Sh at HPT FF
    generalize (⟨(partP l).toArray⟩ : ByteArray) = Pl at HPT HCU
    generalize (⟨A.toArray⟩ : ByteArray) = A1 at HCU HF1
    generalize (⟨D.toArray⟩ : ByteArray) = D1 at HCU HF2
    cases h1 : ref1B A
    · rw [h1] at HF1 FO
      have HO : Hid (formOk l = false) := hide (by rw [unhide FO]; rfl)
      clear HR1 HR2 h1 HF2
      generalize formV A = r at HF1
      unfold Rf.cells at HF1
      go_enter Tryz.func187, Tryz.ntmps187
      go_upto_region 1 with fail
      have R := hide (cells_new w 52 #[.string ⟨#[]⟩, .string ⟨#[]⟩, .int .i64 0, .int .i64 0, .bool false, .bool false, .int .i64 0, .int .i64 0, .bool false, .bool false, .bool false])
      have HB : Hid (Below w.heap.size w (w.alloc (.cells #[.string ⟨#[]⟩, .string ⟨#[]⟩, .int .i64 0, .int .i64 0, .bool false, .bool false, .int .i64 0, .int .i64 0, .bool false, .bool false, .bool false] 52))) := hide (below_al _ _)
      generalize hW : w.alloc (.cells #[.string ⟨#[]⟩, .string ⟨#[]⟩, .int .i64 0, .int .i64 0, .bool false, .bool false, .int .i64 0, .int .i64 0, .bool false, .bool false, .bool false] 52) = W0 at R HB ⊢
      clear hW
      go_wp2_with fail
      refine (unhide HPT _ ((unhide HE).below (unhide HB))).mono ?_
      rintro e wp ⟨BB, SS, PP, rfl, hp, bp⟩
      replace R := hide (cells_nx (unhide R) bp)
      replace HB := hide (below_nx (unhide HB) bp)
      clear bp
      obtain ⟨rfl, rfl, rfl⟩ := hp trivial
      go_wp2_with fail
      refine (unhide HCU _ ((unhide HE).below (unhide HB))).mono ?_
      rintro e wk2 ⟨rfl, bk2⟩
      replace R := hide (cells_nx (unhide R) bk2)
      replace HB := hide (below_nx (unhide HB) bk2)
      clear bk2
      go_wp2_with fail
      refine (unhide HF1 _).mono ?_
      rintro e wk3 ⟨rfl, bk3⟩
      replace R := hide (cells_nx (unhide R) bk3)
      replace HB := hide (below_nx (unhide HB) bk3)
      clear bk3
      go_upto_region 6 with fail
      replace R := hide (cells_al (unhide R) (.cells #[.int .i64 r.col, .int .i64 r.row, .bool r.fc, .bool r.fr] 50))
      replace HB := hide ((unhide HB).alloc (unhide HB).size (.cells #[.int .i64 r.col, .int .i64 r.row, .bool r.fc, .bool r.fr] 50))
      generalize hW : wk3.alloc (.cells #[.int .i64 r.col, .int .i64 r.row, .bool r.fc, .bool r.fr] 50) = W1 at R HB ⊢
      clear hW
      obtain ⟨r_0, r_1, r_2, r_3, r_4, r_5, r_6, r_7, r_8, r_9, r_10⟩ := cells11 (unhide R)
      have fz_r_0 := cells_f (unhide R) 0
      have fz_r_1 := cells_f (unhide R) 1
      have fz_r_2 := cells_f (unhide R) 2
      have fz_r_3 := cells_f (unhide R) 3
      have fz_r_4 := cells_f (unhide R) 4
      have fz_r_5 := cells_f (unhide R) 5
      have fz_r_6 := cells_f (unhide R) 6
      have fz_r_7 := cells_f (unhide R) 7
      have fz_r_8 := cells_f (unhide R) 8
      have fz_r_9 := cells_f (unhide R) 9
      have fz_r_10 := cells_f (unhide R) 10
      go_wp2
      refine bodyPost_ret (results_c1t rfl _ _ _ _ _ _ rfl (cells_set11 (unhide R) _ _ _ _ _ _ _ _ _ _ _) Tryz.underlying52 rfl (by exact infoF) _ rfl) rfl ?_
      exact ⟨zeroF, by rw [unhide HO]; rfl, (fun h => by rw [unhide HO] at h; cases h), below_set11 (unhide HB) (Nat.le_refl _) _ _ _ _ _ _ _ _ _ _ _⟩
    · rw [h1] at HF1 FO
      rw [unhide HR1 h1] at HF1
      clear HR1 h1
      generalize ref1V A = r at HF1 FF
      cases wd
      · have HO : Hid (formOk l = true) := hide (by rw [unhide FO]; rfl)
        clear HR2 HF2
        unfold Rf.cells at HF1
        go_enter Tryz.func187, Tryz.ntmps187
        go_upto_region 1 with fail
        have R := hide (cells_new w 52 #[.string ⟨#[]⟩, .string ⟨#[]⟩, .int .i64 0, .int .i64 0, .bool false, .bool false, .int .i64 0, .int .i64 0, .bool false, .bool false, .bool false])
        have HB : Hid (Below w.heap.size w (w.alloc (.cells #[.string ⟨#[]⟩, .string ⟨#[]⟩, .int .i64 0, .int .i64 0, .bool false, .bool false, .int .i64 0, .int .i64 0, .bool false, .bool false, .bool false] 52))) := hide (below_al _ _)
        generalize hW : w.alloc (.cells #[.string ⟨#[]⟩, .string ⟨#[]⟩, .int .i64 0, .int .i64 0, .bool false, .bool false, .int .i64 0, .int .i64 0, .bool false, .bool false, .bool false] 52) = W0 at R HB ⊢
        clear hW
        go_wp2_with fail
        refine (unhide HPT _ ((unhide HE).below (unhide HB))).mono ?_
        rintro e wp ⟨BB, SS, PP, rfl, hp, bp⟩
        replace R := hide (cells_nx (unhide R) bp)
        replace HB := hide (below_nx (unhide HB) bp)
        clear bp
        obtain ⟨rfl, rfl, rfl⟩ := hp trivial
        go_wp2_with fail
        refine (unhide HCU _ ((unhide HE).below (unhide HB))).mono ?_
        rintro e wk2 ⟨rfl, bk2⟩
        replace R := hide (cells_nx (unhide R) bk2)
        replace HB := hide (below_nx (unhide HB) bk2)
        clear bk2
        go_wp2_with fail
        refine (unhide HF1 _).mono ?_
        rintro e wk3 ⟨rfl, bk3⟩
        replace R := hide (cells_nx (unhide R) bk3)
        replace HB := hide (below_nx (unhide HB) bk3)
        clear bk3
        have hlt := cells_lt (unhide R)
        go_upto_region 9 with fail
        have V := hide (cells_new2 wk3 (.cells #[.int .i64 r.col, .int .i64 r.row, .bool r.fc, .bool r.fr] 50) 52 #[.string BB, .string SS, .int .i64 r.col, .int .i64 r.row, .bool r.fc, .bool r.fr, .int .i64 0, .int .i64 0, .bool false, .bool false, .bool false])
        replace R := hide (cells_al (cells_al (unhide R) (.cells #[.int .i64 r.col, .int .i64 r.row, .bool r.fc, .bool r.fr] 50)) (.cells #[.string BB, .string SS, .int .i64 r.col, .int .i64 r.row, .bool r.fc, .bool r.fr, .int .i64 0, .int .i64 0, .bool false, .bool false, .bool false] 52))
        replace HB := hide (((unhide HB).alloc (unhide HB).size (.cells #[.int .i64 r.col, .int .i64 r.row, .bool r.fc, .bool r.fr] 50)).alloc (by have := (unhide HB).size; simp; omega) (.cells #[.string BB, .string SS, .int .i64 r.col, .int .i64 r.row, .bool r.fc, .bool r.fr, .int .i64 0, .int .i64 0, .bool false, .bool false, .bool false] 52))
        generalize hW : (wk3.alloc (.cells #[.int .i64 r.col, .int .i64 r.row, .bool r.fc, .bool r.fr] 50)).alloc (.cells #[.string BB, .string SS, .int .i64 r.col, .int .i64 r.row, .bool r.fc, .bool r.fr, .int .i64 0, .int .i64 0, .bool false, .bool false, .bool false] 52) = W1 at R V HB ⊢
        clear hW
        have hne : w.heap.size ≠ wk3.heap.size + 1 := by omega
        obtain ⟨v_0, v_1, v_2, v_3, v_4, v_5, v_6, v_7, v_8, v_9, v_10⟩ := cells11 (unhide V)
        obtain ⟨r_0, r_1, r_2, r_3, r_4, r_5, r_6, r_7, r_8, r_9, r_10⟩ := cells11 (unhide R)
        have fz_r_0 := cells_f (unhide R) 0
        have fz_r_1 := cells_f (unhide R) 1
        have fz_r_2 := cells_f (unhide R) 2
        have fz_r_3 := cells_f (unhide R) 3
        have fz_r_4 := cells_f (unhide R) 4
        have fz_r_5 := cells_f (unhide R) 5
        have fz_r_6 := cells_f (unhide R) 6
        have fz_r_7 := cells_f (unhide R) 7
        have fz_r_8 := cells_f (unhide R) 8
        have fz_r_9 := cells_f (unhide R) 9
        have fz_r_10 := cells_f (unhide R) 10
        go_wp2
        refine bodyPost_ret (results_c1t rfl _ _ _ _ _ _ rfl (cells_set11 (unhide R) _ _ _ _ _ _ _ _ _ _ _) Tryz.underlying52 rfl (by exact infoF) _ rfl) rfl ?_
        exact ⟨⟨BB, SS, r, zeroR, false⟩, by rw [unhide HO]; rfl, (fun _ => by rw [unhide FF]; rfl), below_set11 (unhide HB) (Nat.le_refl _) _ _ _ _ _ _ _ _ _ _ _⟩
      · generalize hqq : formV D = q at HF2 HR2
        clear hqq
        have HQ : Hid (ref1B D = true → ref1V D = q) := hide (fun h => (unhide HR2 h).symm)
        rw [if_pos rfl] at FF
        clear HR2
        cases h2 : ref1B D
        · have HO : Hid (formOk l = false) := hide (by rw [unhide FO, h2]; rfl)
          rw [h2] at HF2
          clear h2
          unfold Rf.cells at HF1 HF2
          go_enter Tryz.func187, Tryz.ntmps187
          go_upto_region 1 with fail
          have R := hide (cells_new w 52 #[.string ⟨#[]⟩, .string ⟨#[]⟩, .int .i64 0, .int .i64 0, .bool false, .bool false, .int .i64 0, .int .i64 0, .bool false, .bool false, .bool false])
          have HB : Hid (Below w.heap.size w (w.alloc (.cells #[.string ⟨#[]⟩, .string ⟨#[]⟩, .int .i64 0, .int .i64 0, .bool false, .bool false, .int .i64 0, .int .i64 0, .bool false, .bool false, .bool false] 52))) := hide (below_al _ _)
          generalize hW : w.alloc (.cells #[.string ⟨#[]⟩, .string ⟨#[]⟩, .int .i64 0, .int .i64 0, .bool false, .bool false, .int .i64 0, .int .i64 0, .bool false, .bool false, .bool false] 52) = W0 at R HB ⊢
          clear hW
          go_wp2_with fail
          refine (unhide HPT _ ((unhide HE).below (unhide HB))).mono ?_
          rintro e wp ⟨BB, SS, PP, rfl, hp, bp⟩
          replace R := hide (cells_nx (unhide R) bp)
          replace HB := hide (below_nx (unhide HB) bp)
          clear bp
          obtain ⟨rfl, rfl, rfl⟩ := hp trivial
          go_wp2_with fail
          refine (unhide HCU _ ((unhide HE).below (unhide HB))).mono ?_
          rintro e wk2 ⟨rfl, bk2⟩
          replace R := hide (cells_nx (unhide R) bk2)
          replace HB := hide (below_nx (unhide HB) bk2)
          clear bk2
          go_wp2_with fail
          refine (unhide HF1 _).mono ?_
          rintro e wk3 ⟨rfl, bk3⟩
          replace R := hide (cells_nx (unhide R) bk3)
          replace HB := hide (below_nx (unhide HB) bk3)
          clear bk3
          have hlt := cells_lt (unhide R)
          go_upto_region 9 with fail
          have V := hide (cells_new2 wk3 (.cells #[.int .i64 r.col, .int .i64 r.row, .bool r.fc, .bool r.fr] 50) 52 #[.string BB, .string SS, .int .i64 r.col, .int .i64 r.row, .bool r.fc, .bool r.fr, .int .i64 0, .int .i64 0, .bool false, .bool false, .bool true])
          replace R := hide (cells_al (cells_al (unhide R) (.cells #[.int .i64 r.col, .int .i64 r.row, .bool r.fc, .bool r.fr] 50)) (.cells #[.string BB, .string SS, .int .i64 r.col, .int .i64 r.row, .bool r.fc, .bool r.fr, .int .i64 0, .int .i64 0, .bool false, .bool false, .bool true] 52))
          replace HB := hide (((unhide HB).alloc (unhide HB).size (.cells #[.int .i64 r.col, .int .i64 r.row, .bool r.fc, .bool r.fr] 50)).alloc (by have := (unhide HB).size; simp; omega) (.cells #[.string BB, .string SS, .int .i64 r.col, .int .i64 r.row, .bool r.fc, .bool r.fr, .int .i64 0, .int .i64 0, .bool false, .bool false, .bool true] 52))
          generalize hW : (wk3.alloc (.cells #[.int .i64 r.col, .int .i64 r.row, .bool r.fc, .bool r.fr] 50)).alloc (.cells #[.string BB, .string SS, .int .i64 r.col, .int .i64 r.row, .bool r.fc, .bool r.fr, .int .i64 0, .int .i64 0, .bool false, .bool false, .bool true] 52) = W1 at R V HB ⊢
          clear hW
          have hne : w.heap.size ≠ wk3.heap.size + 1 := by omega
          go_wp2_with fail
          refine (unhide HF2 _).mono ?_
          rintro e wk4 ⟨rfl, bk4⟩
          replace R := hide (cells_nx (unhide R) bk4)
          replace V := hide (cells_nx (unhide V) bk4)
          replace HB := hide (below_nx (unhide HB) bk4)
          clear bk4
          obtain ⟨v_0, v_1, v_2, v_3, v_4, v_5, v_6, v_7, v_8, v_9, v_10⟩ := cells11 (unhide V)
          have fz_v_6 := cells_f (unhide V) 6
          have fz_v_7 := cells_f (unhide V) 7
          have fz_v_8 := cells_f (unhide V) 8
          have fz_v_9 := cells_f (unhide V) 9
          go_upto_region 11 with fail
          clear v_0 v_1 v_2 v_3 v_4 v_5 v_6 v_7 v_8 v_9 v_10
          clear fz_v_6 fz_v_7 fz_v_8 fz_v_9
          replace V := hide (cells_set (cells_set (cells_set (cells_set (unhide V) 6 (.int .i64 q.col)) 7 (.int .i64 q.row)) 8 (.bool q.fc)) 9 (.bool q.fr))
          replace R := hide (cells_set_far (cells_set_far (cells_set_far (cells_set_far (unhide R) hne 6 (.int .i64 q.col)) hne 7 (.int .i64 q.row)) hne 8 (.bool q.fc)) hne 9 (.bool q.fr))
          replace HB := hide (below_set (B := wk3.heap.size + 1) (i := 9) (below_set (B := wk3.heap.size + 1) (i := 8) (below_set (B := wk3.heap.size + 1) (i := 7) (below_set (B := wk3.heap.size + 1) (i := 6) (unhide HB) (by omega) (.int .i64 q.col)) (by omega) (.int .i64 q.row)) (by omega) (.bool q.fc)) (by omega) (.bool q.fr))
          generalize hW : (((wk4.setCell ⟨wk3.heap.size + 1, 6, none⟩ (.int .i64 q.col)).setCell ⟨wk3.heap.size + 1, 7, none⟩ (.int .i64 q.row)).setCell ⟨wk3.heap.size + 1, 8, none⟩ (.bool q.fc)).setCell ⟨wk3.heap.size + 1, 9, none⟩ (.bool q.fr) = W2 at R V HB ⊢
          clear hW
          replace V : Hid (CellsAt W2 (wk3.heap.size + 1) 52 #[.string BB, .string SS, .int .i64 r.col, .int .i64 r.row, .bool r.fc, .bool r.fr, .int .i64 q.col, .int .i64 q.row, .bool q.fc, .bool q.fr, .bool true]) := V
          obtain ⟨v_0, v_1, v_2, v_3, v_4, v_5, v_6, v_7, v_8, v_9, v_10⟩ := cells11 (unhide V)
          obtain ⟨r_0, r_1, r_2, r_3, r_4, r_5, r_6, r_7, r_8, r_9, r_10⟩ := cells11 (unhide R)
          have fz_r_0 := cells_f (unhide R) 0
          have fz_r_1 := cells_f (unhide R) 1
          have fz_r_2 := cells_f (unhide R) 2
          have fz_r_3 := cells_f (unhide R) 3
          have fz_r_4 := cells_f (unhide R) 4
          have fz_r_5 := cells_f (unhide R) 5
          have fz_r_6 := cells_f (unhide R) 6
          have fz_r_7 := cells_f (unhide R) 7
          have fz_r_8 := cells_f (unhide R) 8
          have fz_r_9 := cells_f (unhide R) 9
          have fz_r_10 := cells_f (unhide R) 10
          go_wp2
          refine bodyPost_ret (results_c1t rfl _ _ _ _ _ _ rfl (cells_set11 (unhide R) _ _ _ _ _ _ _ _ _ _ _) Tryz.underlying52 rfl (by exact infoF) _ rfl) rfl ?_
          exact ⟨⟨BB, SS, r, q, true⟩, by rw [unhide HO]; rfl, (fun h => by rw [unhide HO] at h; cases h), below_set11 (unhide HB) (Nat.le_refl _) _ _ _ _ _ _ _ _ _ _ _⟩
        · have HO : Hid (formOk l = true) := hide (by rw [unhide FO, h2]; rfl)
          have HOO : Hid (formOk l = ref1B D) := hide (by rw [unhide FO]; simp)
          rw [h2] at HF2
          clear h2
          unfold Rf.cells at HF1 HF2
          go_enter Tryz.func187, Tryz.ntmps187
          go_upto_region 1 with fail
          have R := hide (cells_new w 52 #[.string ⟨#[]⟩, .string ⟨#[]⟩, .int .i64 0, .int .i64 0, .bool false, .bool false, .int .i64 0, .int .i64 0, .bool false, .bool false, .bool false])
          have HB : Hid (Below w.heap.size w (w.alloc (.cells #[.string ⟨#[]⟩, .string ⟨#[]⟩, .int .i64 0, .int .i64 0, .bool false, .bool false, .int .i64 0, .int .i64 0, .bool false, .bool false, .bool false] 52))) := hide (below_al _ _)
          generalize hW : w.alloc (.cells #[.string ⟨#[]⟩, .string ⟨#[]⟩, .int .i64 0, .int .i64 0, .bool false, .bool false, .int .i64 0, .int .i64 0, .bool false, .bool false, .bool false] 52) = W0 at R HB ⊢
          clear hW
          go_wp2_with fail
          refine (unhide HPT _ ((unhide HE).below (unhide HB))).mono ?_
          rintro e wp ⟨BB, SS, PP, rfl, hp, bp⟩
          replace R := hide (cells_nx (unhide R) bp)
          replace HB := hide (below_nx (unhide HB) bp)
          clear bp
          obtain ⟨rfl, rfl, rfl⟩ := hp trivial
          go_wp2_with fail
          refine (unhide HCU _ ((unhide HE).below (unhide HB))).mono ?_
          rintro e wk2 ⟨rfl, bk2⟩
          replace R := hide (cells_nx (unhide R) bk2)
          replace HB := hide (below_nx (unhide HB) bk2)
          clear bk2
          go_wp2_with fail
          refine (unhide HF1 _).mono ?_
          rintro e wk3 ⟨rfl, bk3⟩
          replace R := hide (cells_nx (unhide R) bk3)
          replace HB := hide (below_nx (unhide HB) bk3)
          clear bk3
          have hlt := cells_lt (unhide R)
          go_upto_region 9 with fail
          have V := hide (cells_new2 wk3 (.cells #[.int .i64 r.col, .int .i64 r.row, .bool r.fc, .bool r.fr] 50) 52 #[.string BB, .string SS, .int .i64 r.col, .int .i64 r.row, .bool r.fc, .bool r.fr, .int .i64 0, .int .i64 0, .bool false, .bool false, .bool true])
          replace R := hide (cells_al (cells_al (unhide R) (.cells #[.int .i64 r.col, .int .i64 r.row, .bool r.fc, .bool r.fr] 50)) (.cells #[.string BB, .string SS, .int .i64 r.col, .int .i64 r.row, .bool r.fc, .bool r.fr, .int .i64 0, .int .i64 0, .bool false, .bool false, .bool true] 52))
          replace HB := hide (((unhide HB).alloc (unhide HB).size (.cells #[.int .i64 r.col, .int .i64 r.row, .bool r.fc, .bool r.fr] 50)).alloc (by have := (unhide HB).size; simp; omega) (.cells #[.string BB, .string SS, .int .i64 r.col, .int .i64 r.row, .bool r.fc, .bool r.fr, .int .i64 0, .int .i64 0, .bool false, .bool false, .bool true] 52))
          generalize hW : (wk3.alloc (.cells #[.int .i64 r.col, .int .i64 r.row, .bool r.fc, .bool r.fr] 50)).alloc (.cells #[.string BB, .string SS, .int .i64 r.col, .int .i64 r.row, .bool r.fc, .bool r.fr, .int .i64 0, .int .i64 0, .bool false, .bool false, .bool true] 52) = W1 at R V HB ⊢
          clear hW
          have hne : w.heap.size ≠ wk3.heap.size + 1 := by omega
          go_wp2_with fail
          refine (unhide HF2 _).mono ?_
          rintro e wk4 ⟨rfl, bk4⟩
          replace R := hide (cells_nx (unhide R) bk4)
          replace V := hide (cells_nx (unhide V) bk4)
          replace HB := hide (below_nx (unhide HB) bk4)
          clear bk4
          obtain ⟨v_0, v_1, v_2, v_3, v_4, v_5, v_6, v_7, v_8, v_9, v_10⟩ := cells11 (unhide V)
          have fz_v_6 := cells_f (unhide V) 6
          have fz_v_7 := cells_f (unhide V) 7
          have fz_v_8 := cells_f (unhide V) 8
          have fz_v_9 := cells_f (unhide V) 9
          go_upto_region 11 with fail
          clear v_0 v_1 v_2 v_3 v_4 v_5 v_6 v_7 v_8 v_9 v_10
          clear fz_v_6 fz_v_7 fz_v_8 fz_v_9
          replace V := hide (cells_set (cells_set (cells_set (cells_set (unhide V) 6 (.int .i64 q.col)) 7 (.int .i64 q.row)) 8 (.bool q.fc)) 9 (.bool q.fr))
          replace R := hide (cells_set_far (cells_set_far (cells_set_far (cells_set_far (unhide R) hne 6 (.int .i64 q.col)) hne 7 (.int .i64 q.row)) hne 8 (.bool q.fc)) hne 9 (.bool q.fr))
          replace HB := hide (below_set (B := wk3.heap.size + 1) (i := 9) (below_set (B := wk3.heap.size + 1) (i := 8) (below_set (B := wk3.heap.size + 1) (i := 7) (below_set (B := wk3.heap.size + 1) (i := 6) (unhide HB) (by omega) (.int .i64 q.col)) (by omega) (.int .i64 q.row)) (by omega) (.bool q.fc)) (by omega) (.bool q.fr))
          generalize hW : (((wk4.setCell ⟨wk3.heap.size + 1, 6, none⟩ (.int .i64 q.col)).setCell ⟨wk3.heap.size + 1, 7, none⟩ (.int .i64 q.row)).setCell ⟨wk3.heap.size + 1, 8, none⟩ (.bool q.fc)).setCell ⟨wk3.heap.size + 1, 9, none⟩ (.bool q.fr) = W2 at R V HB ⊢
          clear hW
          replace V : Hid (CellsAt W2 (wk3.heap.size + 1) 52 #[.string BB, .string SS, .int .i64 r.col, .int .i64 r.row, .bool r.fc, .bool r.fr, .int .i64 q.col, .int .i64 q.row, .bool q.fc, .bool q.fr, .bool true]) := V
          obtain ⟨v_0, v_1, v_2, v_3, v_4, v_5, v_6, v_7, v_8, v_9, v_10⟩ := cells11 (unhide V)
          obtain ⟨r_0, r_1, r_2, r_3, r_4, r_5, r_6, r_7, r_8, r_9, r_10⟩ := cells11 (unhide R)
          have fz_r_0 := cells_f (unhide R) 0
          have fz_r_1 := cells_f (unhide R) 1
          have fz_r_2 := cells_f (unhide R) 2
          have fz_r_3 := cells_f (unhide R) 3
          have fz_r_4 := cells_f (unhide R) 4
          have fz_r_5 := cells_f (unhide R) 5
          have fz_r_6 := cells_f (unhide R) 6
          have fz_r_7 := cells_f (unhide R) 7
          have fz_r_8 := cells_f (unhide R) 8
          have fz_r_9 := cells_f (unhide R) 9
          have fz_r_10 := cells_f (unhide R) 10
          go_wp2
          refine bodyPost_ret (results_c1t rfl _ _ _ _ _ _ rfl (cells_set11 (unhide R) _ _ _ _ _ _ _ _ _ _ _) Tryz.underlying52 rfl (by exact infoF) _ rfl) rfl ?_
          exact ⟨⟨BB, SS, r, q, true⟩, by rw [unhide HO]; rfl, (fun _ => by rw [unhide FF, unhide HQ (by first | rfl | (have h := unhide HO; rw [unhide HOO] at h; exact h))]), below_set11 (unhide HB) (Nat.le_refl _) _ _ _ _ _ _ _ _ _ _ _⟩
end Go.Proofs.YtloamahbghjjgaaGreatDoor

namespace Go.Proofs.YtloamahbghjjgaaGreatDoor
open Go.RowKit

theorem cells_mid8 {w : World} {B : Nat} {t : TypeId} {y0 y1 y2 y3 y4 y5 y6 y7 y8 y9 y10 : Value} (h : CellsAt w B t #[y0, y1, y2, y3, y4, y5, y6, y7, y8, y9, y10]) (x2 x3 x4 x5 x6 x7 x8 x9 : Value) : CellsAt ((((((((w.setCell ⟨B, 2, none⟩ x2).setCell ⟨B, 3, none⟩ x3).setCell ⟨B, 4, none⟩ x4).setCell ⟨B, 5, none⟩ x5).setCell ⟨B, 6, none⟩ x6).setCell ⟨B, 7, none⟩ x7).setCell ⟨B, 8, none⟩ x8).setCell ⟨B, 9, none⟩ x9) B t #[y0, y1, x2, x3, x4, x5, x6, x7, x8, x9, y10] := by
  have h0 : CellsAt (w.setCell ⟨B, 2, none⟩ x2) B t #[y0, y1, x2, y3, y4, y5, y6, y7, y8, y9, y10] := cells_set h 2 x2
  have h1 : CellsAt ((w.setCell ⟨B, 2, none⟩ x2).setCell ⟨B, 3, none⟩ x3) B t #[y0, y1, x2, x3, y4, y5, y6, y7, y8, y9, y10] := cells_set h0 3 x3
  have h2 : CellsAt (((w.setCell ⟨B, 2, none⟩ x2).setCell ⟨B, 3, none⟩ x3).setCell ⟨B, 4, none⟩ x4) B t #[y0, y1, x2, x3, x4, y5, y6, y7, y8, y9, y10] := cells_set h1 4 x4
  have h3 : CellsAt ((((w.setCell ⟨B, 2, none⟩ x2).setCell ⟨B, 3, none⟩ x3).setCell ⟨B, 4, none⟩ x4).setCell ⟨B, 5, none⟩ x5) B t #[y0, y1, x2, x3, x4, x5, y6, y7, y8, y9, y10] := cells_set h2 5 x5
  have h4 : CellsAt (((((w.setCell ⟨B, 2, none⟩ x2).setCell ⟨B, 3, none⟩ x3).setCell ⟨B, 4, none⟩ x4).setCell ⟨B, 5, none⟩ x5).setCell ⟨B, 6, none⟩ x6) B t #[y0, y1, x2, x3, x4, x5, x6, y7, y8, y9, y10] := cells_set h3 6 x6
  have h5 : CellsAt ((((((w.setCell ⟨B, 2, none⟩ x2).setCell ⟨B, 3, none⟩ x3).setCell ⟨B, 4, none⟩ x4).setCell ⟨B, 5, none⟩ x5).setCell ⟨B, 6, none⟩ x6).setCell ⟨B, 7, none⟩ x7) B t #[y0, y1, x2, x3, x4, x5, x6, x7, y8, y9, y10] := cells_set h4 7 x7
  have h6 : CellsAt (((((((w.setCell ⟨B, 2, none⟩ x2).setCell ⟨B, 3, none⟩ x3).setCell ⟨B, 4, none⟩ x4).setCell ⟨B, 5, none⟩ x5).setCell ⟨B, 6, none⟩ x6).setCell ⟨B, 7, none⟩ x7).setCell ⟨B, 8, none⟩ x8) B t #[y0, y1, x2, x3, x4, x5, x6, x7, x8, y9, y10] := cells_set h5 8 x8
  have h7 : CellsAt ((((((((w.setCell ⟨B, 2, none⟩ x2).setCell ⟨B, 3, none⟩ x3).setCell ⟨B, 4, none⟩ x4).setCell ⟨B, 5, none⟩ x5).setCell ⟨B, 6, none⟩ x6).setCell ⟨B, 7, none⟩ x7).setCell ⟨B, 8, none⟩ x8).setCell ⟨B, 9, none⟩ x9) B t #[y0, y1, x2, x3, x4, x5, x6, x7, x8, x9, y10] := cells_set h6 9 x9
  exact h7
set_option maxRecDepth 100000 in
set_option maxHeartbeats 1500000 in
theorem parse4_val (s : ByteArray) (w : World) (hs : s.size < 4294967281) (he : Env4 w) :
    Calls Tryz.prog 148 #[.string s] w fun e w' => e = .returned (.tuple #[.agg (fullP s.data.toList).1.cells, .int .i64 (fullP s.data.toList).2]) ∧ Below w.heap.size w w' := by
  obtain ⟨l, hl⟩ : ∃ l, s.data.toList = l := ⟨_, rfl⟩
  have HFF := hide (fun w he => formedFull_val s w hs he)
  rw [hl] at HFF ⊢
  have HE := hide he
  clear he hs hl
  unfold FormPost at HFF
  cases ho : formOk l
  · have E : fullP l = (zeroF, 4) := by unfold fullP; rw [ho]; rfl
    rw [E]
    rw [ho] at HFF
    clear E ho
    unfold zeroF zeroR
    show Calls _ _ _ _ fun e w' => e = Ending.returned (Value.tuple #[Value.agg #[.string ⟨#[]⟩, .string ⟨#[]⟩, .int .i64 0, .int .i64 0, .bool false, .bool false, .int .i64 0, .int .i64 0, .bool false, .bool false, .bool false], _]) ∧ _
    go_enter Tryz.func148, Tryz.ntmps148
    go_upto_region 1 with fail
    have R := hide (cells_new w 52 #[.string ⟨#[]⟩, .string ⟨#[]⟩, .int .i64 0, .int .i64 0, .bool false, .bool false, .int .i64 0, .int .i64 0, .bool false, .bool false, .bool false])
    have HB : Hid (Below w.heap.size w (w.alloc (.cells #[.string ⟨#[]⟩, .string ⟨#[]⟩, .int .i64 0, .int .i64 0, .bool false, .bool false, .int .i64 0, .int .i64 0, .bool false, .bool false, .bool false] 52))) := hide (below_al _ _)
    generalize hW : w.alloc (.cells #[.string ⟨#[]⟩, .string ⟨#[]⟩, .int .i64 0, .int .i64 0, .bool false, .bool false, .int .i64 0, .int .i64 0, .bool false, .bool false, .bool false] 52) = W0 at R HB ⊢
    clear hW
    go_wp2_with fail
    refine (unhide HFF _ ((unhide HE).below (unhide HB))).mono ?_
    rintro e wp ⟨FL, rfl, hfl, bp⟩
    replace R := hide (cells_nx (unhide R) bp)
    replace HB := hide (below_nx (unhide HB) bp)
    clear bp
    obtain ⟨bk, sh, ⟨c1, r1, f1, g1⟩, ⟨c2, r2, f2, g2⟩, wd⟩ := FL
    unfold Fl.cells
    simp only []
    clear hfl
    have hlt := cells_lt (unhide R)
    go_upto_region 2 with fail
    have V := hide (cells_new wp 52 #[.string bk, .string sh, .int .i64 c1, .int .i64 r1, .bool f1, .bool g1, .int .i64 c2, .int .i64 r2, .bool f2, .bool g2, .bool wd])
    replace R := hide (cells_al (unhide R) (.cells #[.string bk, .string sh, .int .i64 c1, .int .i64 r1, .bool f1, .bool g1, .int .i64 c2, .int .i64 r2, .bool f2, .bool g2, .bool wd] 52))
    replace HB := hide ((unhide HB).alloc (unhide HB).size (.cells #[.string bk, .string sh, .int .i64 c1, .int .i64 r1, .bool f1, .bool g1, .int .i64 c2, .int .i64 r2, .bool f2, .bool g2, .bool wd] 52))
    have hne : w.heap.size ≠ wp.heap.size := by omega
    generalize hW : wp.alloc (.cells #[.string bk, .string sh, .int .i64 c1, .int .i64 r1, .bool f1, .bool g1, .int .i64 c2, .int .i64 r2, .bool f2, .bool g2, .bool wd] 52) = W1 at R V HB ⊢
    clear hW
    obtain ⟨r_0, r_1, r_2, r_3, r_4, r_5, r_6, r_7, r_8, r_9, r_10⟩ := cells11 (unhide R)
    have fz_r_0 := cells_f (unhide R) 0
    have fz_r_1 := cells_f (unhide R) 1
    have fz_r_2 := cells_f (unhide R) 2
    have fz_r_3 := cells_f (unhide R) 3
    have fz_r_4 := cells_f (unhide R) 4
    have fz_r_5 := cells_f (unhide R) 5
    have fz_r_6 := cells_f (unhide R) 6
    have fz_r_7 := cells_f (unhide R) 7
    have fz_r_8 := cells_f (unhide R) 8
    have fz_r_9 := cells_f (unhide R) 9
    have fz_r_10 := cells_f (unhide R) 10
    go_wp2
    refine bodyPost_ret (results_c1t rfl _ _ _ _ _ _ rfl (cells_set11 (unhide R) _ _ _ _ _ _ _ _ _ _ _) Tryz.underlying52 rfl (by exact infoF) _ rfl) rfl ?_
    exact ⟨rfl, below_set11 (unhide HB) (Nat.le_refl _) _ _ _ _ _ _ _ _ _ _ _⟩
  · have E : fullP l = (if (cellG (formF l).a.col (formF l).a.row && cellG (formF l).b.col (formF l).b.row) = true then (if goodF (turnF (formF l)) = true then (turnF (formF l), 0) else (zeroF, 7)) else (zeroF, 3)) := by unfold fullP; rw [ho]; rfl
    rw [E]
    rw [ho] at HFF
    clear E ho
    generalize formF l = X at HFF ⊢
    obtain ⟨bk, sh, ⟨c1, r1, f1, g1⟩, ⟨c2, r2, f2, g2⟩, wd⟩ := X
    simp only []
    have H1 := hide (fun w => cellGood_val c1 r1 w)
    have H2 := hide (fun w => cellGood_val c2 r2 w)
    cases q1 : cellG c1 r1
    · rw [q1] at H1
      rw [Bool.false_and, if_neg (by simp)]
      clear q1
      unfold zeroF zeroR
      show Calls _ _ _ _ fun e w' => e = Ending.returned (Value.tuple #[Value.agg #[.string ⟨#[]⟩, .string ⟨#[]⟩, .int .i64 0, .int .i64 0, .bool false, .bool false, .int .i64 0, .int .i64 0, .bool false, .bool false, .bool false], _]) ∧ _
      go_enter Tryz.func148, Tryz.ntmps148
      go_upto_region 1 with fail
      have R := hide (cells_new w 52 #[.string ⟨#[]⟩, .string ⟨#[]⟩, .int .i64 0, .int .i64 0, .bool false, .bool false, .int .i64 0, .int .i64 0, .bool false, .bool false, .bool false])
      have HB : Hid (Below w.heap.size w (w.alloc (.cells #[.string ⟨#[]⟩, .string ⟨#[]⟩, .int .i64 0, .int .i64 0, .bool false, .bool false, .int .i64 0, .int .i64 0, .bool false, .bool false, .bool false] 52))) := hide (below_al _ _)
      generalize hW : w.alloc (.cells #[.string ⟨#[]⟩, .string ⟨#[]⟩, .int .i64 0, .int .i64 0, .bool false, .bool false, .int .i64 0, .int .i64 0, .bool false, .bool false, .bool false] 52) = W0 at R HB ⊢
      clear hW
      go_wp2_with fail
      refine (unhide HFF _ ((unhide HE).below (unhide HB))).mono ?_
      rintro e wp ⟨FL, rfl, hfl, bp⟩
      replace R := hide (cells_nx (unhide R) bp)
      replace HB := hide (below_nx (unhide HB) bp)
      clear bp
      obtain rfl := hfl trivial
      unfold Fl.cells
      simp only []
      have hlt := cells_lt (unhide R)
      go_upto_region 2 with fail
      have V := hide (cells_new wp 52 #[.string bk, .string sh, .int .i64 c1, .int .i64 r1, .bool f1, .bool g1, .int .i64 c2, .int .i64 r2, .bool f2, .bool g2, .bool wd])
      replace R := hide (cells_al (unhide R) (.cells #[.string bk, .string sh, .int .i64 c1, .int .i64 r1, .bool f1, .bool g1, .int .i64 c2, .int .i64 r2, .bool f2, .bool g2, .bool wd] 52))
      replace HB := hide ((unhide HB).alloc (unhide HB).size (.cells #[.string bk, .string sh, .int .i64 c1, .int .i64 r1, .bool f1, .bool g1, .int .i64 c2, .int .i64 r2, .bool f2, .bool g2, .bool wd] 52))
      have hne : w.heap.size ≠ wp.heap.size := by omega
      generalize hW : wp.alloc (.cells #[.string bk, .string sh, .int .i64 c1, .int .i64 r1, .bool f1, .bool g1, .int .i64 c2, .int .i64 r2, .bool f2, .bool g2, .bool wd] 52) = W1 at R V HB ⊢
      clear hW
      obtain ⟨v_0, v_1, v_2, v_3, v_4, v_5, v_6, v_7, v_8, v_9, v_10⟩ := cells11 (unhide V)
      go_wp2_with fail
      refine (unhide H1 _).mono ?_
      rintro e wk1 ⟨rfl, bk1⟩
      replace R := hide (cells_nx (unhide R) bk1)
      replace V := hide (cells_nx (unhide V) bk1)
      replace HB := hide (below_nx (unhide HB) bk1)
      clear bk1
      clear v_0 v_1 v_2 v_3 v_4 v_5 v_6 v_7 v_8 v_9 v_10
      obtain ⟨r_0, r_1, r_2, r_3, r_4, r_5, r_6, r_7, r_8, r_9, r_10⟩ := cells11 (unhide R)
      have fz_r_0 := cells_f (unhide R) 0
      have fz_r_1 := cells_f (unhide R) 1
      have fz_r_2 := cells_f (unhide R) 2
      have fz_r_3 := cells_f (unhide R) 3
      have fz_r_4 := cells_f (unhide R) 4
      have fz_r_5 := cells_f (unhide R) 5
      have fz_r_6 := cells_f (unhide R) 6
      have fz_r_7 := cells_f (unhide R) 7
      have fz_r_8 := cells_f (unhide R) 8
      have fz_r_9 := cells_f (unhide R) 9
      have fz_r_10 := cells_f (unhide R) 10
      go_wp2
      refine bodyPost_ret (results_c1t rfl _ _ _ _ _ _ rfl (cells_set11 (unhide R) _ _ _ _ _ _ _ _ _ _ _) Tryz.underlying52 rfl (by exact infoF) _ rfl) rfl ?_
      exact ⟨rfl, below_set11 (unhide HB) (Nat.le_refl _) _ _ _ _ _ _ _ _ _ _ _⟩
    · rw [q1] at H1
      cases q2 : cellG c2 r2
      · rw [q2] at H2
        rw [Bool.and_false, if_neg (by simp)]
        clear q1 q2
        unfold zeroF zeroR
        show Calls _ _ _ _ fun e w' => e = Ending.returned (Value.tuple #[Value.agg #[.string ⟨#[]⟩, .string ⟨#[]⟩, .int .i64 0, .int .i64 0, .bool false, .bool false, .int .i64 0, .int .i64 0, .bool false, .bool false, .bool false], _]) ∧ _
        go_enter Tryz.func148, Tryz.ntmps148
        go_upto_region 1 with fail
        have R := hide (cells_new w 52 #[.string ⟨#[]⟩, .string ⟨#[]⟩, .int .i64 0, .int .i64 0, .bool false, .bool false, .int .i64 0, .int .i64 0, .bool false, .bool false, .bool false])
        have HB : Hid (Below w.heap.size w (w.alloc (.cells #[.string ⟨#[]⟩, .string ⟨#[]⟩, .int .i64 0, .int .i64 0, .bool false, .bool false, .int .i64 0, .int .i64 0, .bool false, .bool false, .bool false] 52))) := hide (below_al _ _)
        generalize hW : w.alloc (.cells #[.string ⟨#[]⟩, .string ⟨#[]⟩, .int .i64 0, .int .i64 0, .bool false, .bool false, .int .i64 0, .int .i64 0, .bool false, .bool false, .bool false] 52) = W0 at R HB ⊢
        clear hW
        go_wp2_with fail
        refine (unhide HFF _ ((unhide HE).below (unhide HB))).mono ?_
        rintro e wp ⟨FL, rfl, hfl, bp⟩
        replace R := hide (cells_nx (unhide R) bp)
        replace HB := hide (below_nx (unhide HB) bp)
        clear bp
        obtain rfl := hfl trivial
        unfold Fl.cells
        simp only []
        have hlt := cells_lt (unhide R)
        go_upto_region 2 with fail
        have V := hide (cells_new wp 52 #[.string bk, .string sh, .int .i64 c1, .int .i64 r1, .bool f1, .bool g1, .int .i64 c2, .int .i64 r2, .bool f2, .bool g2, .bool wd])
        replace R := hide (cells_al (unhide R) (.cells #[.string bk, .string sh, .int .i64 c1, .int .i64 r1, .bool f1, .bool g1, .int .i64 c2, .int .i64 r2, .bool f2, .bool g2, .bool wd] 52))
        replace HB := hide ((unhide HB).alloc (unhide HB).size (.cells #[.string bk, .string sh, .int .i64 c1, .int .i64 r1, .bool f1, .bool g1, .int .i64 c2, .int .i64 r2, .bool f2, .bool g2, .bool wd] 52))
        have hne : w.heap.size ≠ wp.heap.size := by omega
        generalize hW : wp.alloc (.cells #[.string bk, .string sh, .int .i64 c1, .int .i64 r1, .bool f1, .bool g1, .int .i64 c2, .int .i64 r2, .bool f2, .bool g2, .bool wd] 52) = W1 at R V HB ⊢
        clear hW
        obtain ⟨v_0, v_1, v_2, v_3, v_4, v_5, v_6, v_7, v_8, v_9, v_10⟩ := cells11 (unhide V)
        go_wp2_with fail
        refine (unhide H1 _).mono ?_
        rintro e wk1 ⟨rfl, bk1⟩
        replace R := hide (cells_nx (unhide R) bk1)
        replace V := hide (cells_nx (unhide V) bk1)
        replace HB := hide (below_nx (unhide HB) bk1)
        clear bk1
        clear v_0 v_1 v_2 v_3 v_4 v_5 v_6 v_7 v_8 v_9 v_10
        obtain ⟨v_0, v_1, v_2, v_3, v_4, v_5, v_6, v_7, v_8, v_9, v_10⟩ := cells11 (unhide V)
        go_wp2_with fail
        refine (unhide H2 _).mono ?_
        rintro e wk2 ⟨rfl, bk2⟩
        replace R := hide (cells_nx (unhide R) bk2)
        replace V := hide (cells_nx (unhide V) bk2)
        replace HB := hide (below_nx (unhide HB) bk2)
        clear bk2
        clear v_0 v_1 v_2 v_3 v_4 v_5 v_6 v_7 v_8 v_9 v_10
        obtain ⟨r_0, r_1, r_2, r_3, r_4, r_5, r_6, r_7, r_8, r_9, r_10⟩ := cells11 (unhide R)
        have fz_r_0 := cells_f (unhide R) 0
        have fz_r_1 := cells_f (unhide R) 1
        have fz_r_2 := cells_f (unhide R) 2
        have fz_r_3 := cells_f (unhide R) 3
        have fz_r_4 := cells_f (unhide R) 4
        have fz_r_5 := cells_f (unhide R) 5
        have fz_r_6 := cells_f (unhide R) 6
        have fz_r_7 := cells_f (unhide R) 7
        have fz_r_8 := cells_f (unhide R) 8
        have fz_r_9 := cells_f (unhide R) 9
        have fz_r_10 := cells_f (unhide R) 10
        go_wp2
        refine bodyPost_ret (results_c1t rfl _ _ _ _ _ _ rfl (cells_set11 (unhide R) _ _ _ _ _ _ _ _ _ _ _) Tryz.underlying52 rfl (by exact infoF) _ rfl) rfl ?_
        exact ⟨rfl, below_set11 (unhide HB) (Nat.le_refl _) _ _ _ _ _ _ _ _ _ _ _⟩
      · rw [q2] at H2
        rw [Bool.and_true, if_pos rfl]
        clear q1 q2
        cases wd
        · have E : turnF ⟨bk, sh, ⟨c1, r1, f1, g1⟩, ⟨c2, r2, f2, g2⟩, false⟩ = ⟨bk, sh, ⟨c1, r1, f1, g1⟩, ⟨c2, r2, f2, g2⟩, false⟩ := rfl
          rw [E]
          clear E
          have HG := hide (fun w => fullGood_val ⟨bk, sh, ⟨c1, r1, f1, g1⟩, ⟨c2, r2, f2, g2⟩, false⟩ w)
          unfold Fl.cells at HG
          cases q3 : goodF ⟨bk, sh, ⟨c1, r1, f1, g1⟩, ⟨c2, r2, f2, g2⟩, false⟩
          · rw [q3] at HG
            rw [if_neg (by simp)]
            clear q3
            unfold zeroF zeroR
            show Calls _ _ _ _ fun e w' => e = Ending.returned (Value.tuple #[Value.agg #[.string ⟨#[]⟩, .string ⟨#[]⟩, .int .i64 0, .int .i64 0, .bool false, .bool false, .int .i64 0, .int .i64 0, .bool false, .bool false, .bool false], _]) ∧ _
            go_enter Tryz.func148, Tryz.ntmps148
            go_upto_region 1 with fail
            have R := hide (cells_new w 52 #[.string ⟨#[]⟩, .string ⟨#[]⟩, .int .i64 0, .int .i64 0, .bool false, .bool false, .int .i64 0, .int .i64 0, .bool false, .bool false, .bool false])
            have HB : Hid (Below w.heap.size w (w.alloc (.cells #[.string ⟨#[]⟩, .string ⟨#[]⟩, .int .i64 0, .int .i64 0, .bool false, .bool false, .int .i64 0, .int .i64 0, .bool false, .bool false, .bool false] 52))) := hide (below_al _ _)
            generalize hW : w.alloc (.cells #[.string ⟨#[]⟩, .string ⟨#[]⟩, .int .i64 0, .int .i64 0, .bool false, .bool false, .int .i64 0, .int .i64 0, .bool false, .bool false, .bool false] 52) = W0 at R HB ⊢
            clear hW
            go_wp2_with fail
            refine (unhide HFF _ ((unhide HE).below (unhide HB))).mono ?_
            rintro e wp ⟨FL, rfl, hfl, bp⟩
            replace R := hide (cells_nx (unhide R) bp)
            replace HB := hide (below_nx (unhide HB) bp)
            clear bp
            obtain rfl := hfl trivial
            unfold Fl.cells
            simp only []
            have hlt := cells_lt (unhide R)
            go_upto_region 2 with fail
            have V := hide (cells_new wp 52 #[.string bk, .string sh, .int .i64 c1, .int .i64 r1, .bool f1, .bool g1, .int .i64 c2, .int .i64 r2, .bool f2, .bool g2, .bool false])
            replace R := hide (cells_al (unhide R) (.cells #[.string bk, .string sh, .int .i64 c1, .int .i64 r1, .bool f1, .bool g1, .int .i64 c2, .int .i64 r2, .bool f2, .bool g2, .bool false] 52))
            replace HB := hide ((unhide HB).alloc (unhide HB).size (.cells #[.string bk, .string sh, .int .i64 c1, .int .i64 r1, .bool f1, .bool g1, .int .i64 c2, .int .i64 r2, .bool f2, .bool g2, .bool false] 52))
            have hne : w.heap.size ≠ wp.heap.size := by omega
            generalize hW : wp.alloc (.cells #[.string bk, .string sh, .int .i64 c1, .int .i64 r1, .bool f1, .bool g1, .int .i64 c2, .int .i64 r2, .bool f2, .bool g2, .bool false] 52) = W1 at R V HB ⊢
            clear hW
            obtain ⟨v_0, v_1, v_2, v_3, v_4, v_5, v_6, v_7, v_8, v_9, v_10⟩ := cells11 (unhide V)
            go_wp2_with fail
            refine (unhide H1 _).mono ?_
            rintro e wk1 ⟨rfl, bk1⟩
            replace R := hide (cells_nx (unhide R) bk1)
            replace V := hide (cells_nx (unhide V) bk1)
            replace HB := hide (below_nx (unhide HB) bk1)
            clear bk1
            clear v_0 v_1 v_2 v_3 v_4 v_5 v_6 v_7 v_8 v_9 v_10
            obtain ⟨v_0, v_1, v_2, v_3, v_4, v_5, v_6, v_7, v_8, v_9, v_10⟩ := cells11 (unhide V)
            go_wp2_with fail
            refine (unhide H2 _).mono ?_
            rintro e wk2 ⟨rfl, bk2⟩
            replace R := hide (cells_nx (unhide R) bk2)
            replace V := hide (cells_nx (unhide V) bk2)
            replace HB := hide (below_nx (unhide HB) bk2)
            clear bk2
            clear v_0 v_1 v_2 v_3 v_4 v_5 v_6 v_7 v_8 v_9 v_10
            obtain ⟨v_0, v_1, v_2, v_3, v_4, v_5, v_6, v_7, v_8, v_9, v_10⟩ := cells11 (unhide V)
            go_wp2_with fail
            refine (unhide HG _).mono ?_
            rintro e wk3 ⟨rfl, bk3⟩
            replace R := hide (cells_nx (unhide R) bk3)
            replace V := hide (cells_nx (unhide V) bk3)
            replace HB := hide (below_nx (unhide HB) bk3)
            clear bk3
            clear v_0 v_1 v_2 v_3 v_4 v_5 v_6 v_7 v_8 v_9 v_10
            obtain ⟨r_0, r_1, r_2, r_3, r_4, r_5, r_6, r_7, r_8, r_9, r_10⟩ := cells11 (unhide R)
            have fz_r_0 := cells_f (unhide R) 0
            have fz_r_1 := cells_f (unhide R) 1
            have fz_r_2 := cells_f (unhide R) 2
            have fz_r_3 := cells_f (unhide R) 3
            have fz_r_4 := cells_f (unhide R) 4
            have fz_r_5 := cells_f (unhide R) 5
            have fz_r_6 := cells_f (unhide R) 6
            have fz_r_7 := cells_f (unhide R) 7
            have fz_r_8 := cells_f (unhide R) 8
            have fz_r_9 := cells_f (unhide R) 9
            have fz_r_10 := cells_f (unhide R) 10
            go_wp2
            refine bodyPost_ret (results_c1t rfl _ _ _ _ _ _ rfl (cells_set11 (unhide R) _ _ _ _ _ _ _ _ _ _ _) Tryz.underlying52 rfl (by exact infoF) _ rfl) rfl ?_
            exact ⟨rfl, below_set11 (unhide HB) (Nat.le_refl _) _ _ _ _ _ _ _ _ _ _ _⟩
          · rw [q3] at HG
            rw [if_pos rfl]
            clear q3
            unfold Fl.cells
            simp only []
            go_enter Tryz.func148, Tryz.ntmps148
            go_upto_region 1 with fail
            have R := hide (cells_new w 52 #[.string ⟨#[]⟩, .string ⟨#[]⟩, .int .i64 0, .int .i64 0, .bool false, .bool false, .int .i64 0, .int .i64 0, .bool false, .bool false, .bool false])
            have HB : Hid (Below w.heap.size w (w.alloc (.cells #[.string ⟨#[]⟩, .string ⟨#[]⟩, .int .i64 0, .int .i64 0, .bool false, .bool false, .int .i64 0, .int .i64 0, .bool false, .bool false, .bool false] 52))) := hide (below_al _ _)
            generalize hW : w.alloc (.cells #[.string ⟨#[]⟩, .string ⟨#[]⟩, .int .i64 0, .int .i64 0, .bool false, .bool false, .int .i64 0, .int .i64 0, .bool false, .bool false, .bool false] 52) = W0 at R HB ⊢
            clear hW
            go_wp2_with fail
            refine (unhide HFF _ ((unhide HE).below (unhide HB))).mono ?_
            rintro e wp ⟨FL, rfl, hfl, bp⟩
            replace R := hide (cells_nx (unhide R) bp)
            replace HB := hide (below_nx (unhide HB) bp)
            clear bp
            obtain rfl := hfl trivial
            unfold Fl.cells
            simp only []
            have hlt := cells_lt (unhide R)
            go_upto_region 2 with fail
            have V := hide (cells_new wp 52 #[.string bk, .string sh, .int .i64 c1, .int .i64 r1, .bool f1, .bool g1, .int .i64 c2, .int .i64 r2, .bool f2, .bool g2, .bool false])
            replace R := hide (cells_al (unhide R) (.cells #[.string bk, .string sh, .int .i64 c1, .int .i64 r1, .bool f1, .bool g1, .int .i64 c2, .int .i64 r2, .bool f2, .bool g2, .bool false] 52))
            replace HB := hide ((unhide HB).alloc (unhide HB).size (.cells #[.string bk, .string sh, .int .i64 c1, .int .i64 r1, .bool f1, .bool g1, .int .i64 c2, .int .i64 r2, .bool f2, .bool g2, .bool false] 52))
            have hne : w.heap.size ≠ wp.heap.size := by omega
            generalize hW : wp.alloc (.cells #[.string bk, .string sh, .int .i64 c1, .int .i64 r1, .bool f1, .bool g1, .int .i64 c2, .int .i64 r2, .bool f2, .bool g2, .bool false] 52) = W1 at R V HB ⊢
            clear hW
            obtain ⟨v_0, v_1, v_2, v_3, v_4, v_5, v_6, v_7, v_8, v_9, v_10⟩ := cells11 (unhide V)
            go_wp2_with fail
            refine (unhide H1 _).mono ?_
            rintro e wk1 ⟨rfl, bk1⟩
            replace R := hide (cells_nx (unhide R) bk1)
            replace V := hide (cells_nx (unhide V) bk1)
            replace HB := hide (below_nx (unhide HB) bk1)
            clear bk1
            clear v_0 v_1 v_2 v_3 v_4 v_5 v_6 v_7 v_8 v_9 v_10
            obtain ⟨v_0, v_1, v_2, v_3, v_4, v_5, v_6, v_7, v_8, v_9, v_10⟩ := cells11 (unhide V)
            go_wp2_with fail
            refine (unhide H2 _).mono ?_
            rintro e wk2 ⟨rfl, bk2⟩
            replace R := hide (cells_nx (unhide R) bk2)
            replace V := hide (cells_nx (unhide V) bk2)
            replace HB := hide (below_nx (unhide HB) bk2)
            clear bk2
            clear v_0 v_1 v_2 v_3 v_4 v_5 v_6 v_7 v_8 v_9 v_10
            obtain ⟨v_0, v_1, v_2, v_3, v_4, v_5, v_6, v_7, v_8, v_9, v_10⟩ := cells11 (unhide V)
            go_wp2_with fail
            refine (unhide HG _).mono ?_
            rintro e wk3 ⟨rfl, bk3⟩
            replace R := hide (cells_nx (unhide R) bk3)
            replace V := hide (cells_nx (unhide V) bk3)
            replace HB := hide (below_nx (unhide HB) bk3)
            clear bk3
            clear v_0 v_1 v_2 v_3 v_4 v_5 v_6 v_7 v_8 v_9 v_10
            obtain ⟨v_0, v_1, v_2, v_3, v_4, v_5, v_6, v_7, v_8, v_9, v_10⟩ := cells11 (unhide V)
            obtain ⟨r_0, r_1, r_2, r_3, r_4, r_5, r_6, r_7, r_8, r_9, r_10⟩ := cells11 (unhide R)
            have fz_r_0 := cells_f (unhide R) 0
            have fz_r_1 := cells_f (unhide R) 1
            have fz_r_2 := cells_f (unhide R) 2
            have fz_r_3 := cells_f (unhide R) 3
            have fz_r_4 := cells_f (unhide R) 4
            have fz_r_5 := cells_f (unhide R) 5
            have fz_r_6 := cells_f (unhide R) 6
            have fz_r_7 := cells_f (unhide R) 7
            have fz_r_8 := cells_f (unhide R) 8
            have fz_r_9 := cells_f (unhide R) 9
            have fz_r_10 := cells_f (unhide R) 10
            go_wp2
            refine bodyPost_ret (results_c1t rfl _ _ _ _ _ _ rfl (cells_set11 (unhide R) _ _ _ _ _ _ _ _ _ _ _) Tryz.underlying52 rfl (by exact infoF) _ rfl) rfl ?_
            exact ⟨rfl, below_set11 (unhide HB) (Nat.le_refl _) _ _ _ _ _ _ _ _ _ _ _⟩
        · have E : turnF ⟨bk, sh, ⟨c1, r1, f1, g1⟩, ⟨c2, r2, f2, g2⟩, true⟩ = ⟨bk, sh, cornA ⟨c1, r1, f1, g1⟩ ⟨c2, r2, f2, g2⟩, cornB ⟨c1, r1, f1, g1⟩ ⟨c2, r2, f2, g2⟩, true⟩ := rfl
          rw [E]
          clear E
          have HCO := hide (fun w => corners_val c1 r1 f1 g1 c2 r2 f2 g2 w)
          generalize cornA ⟨c1, r1, f1, g1⟩ ⟨c2, r2, f2, g2⟩ = p at HCO ⊢
          generalize cornB ⟨c1, r1, f1, g1⟩ ⟨c2, r2, f2, g2⟩ = q at HCO ⊢
          unfold Rf.cells at HCO
          have HG := hide (fun w => fullGood_val ⟨bk, sh, p, q, true⟩ w)
          unfold Fl.cells at HG
          cases q3 : goodF ⟨bk, sh, p, q, true⟩
          · rw [q3] at HG
            rw [if_neg (by simp)]
            clear q3
            unfold zeroF zeroR
            show Calls _ _ _ _ fun e w' => e = Ending.returned (Value.tuple #[Value.agg #[.string ⟨#[]⟩, .string ⟨#[]⟩, .int .i64 0, .int .i64 0, .bool false, .bool false, .int .i64 0, .int .i64 0, .bool false, .bool false, .bool false], _]) ∧ _
            go_enter Tryz.func148, Tryz.ntmps148
            go_upto_region 1 with fail
            have R := hide (cells_new w 52 #[.string ⟨#[]⟩, .string ⟨#[]⟩, .int .i64 0, .int .i64 0, .bool false, .bool false, .int .i64 0, .int .i64 0, .bool false, .bool false, .bool false])
            have HB : Hid (Below w.heap.size w (w.alloc (.cells #[.string ⟨#[]⟩, .string ⟨#[]⟩, .int .i64 0, .int .i64 0, .bool false, .bool false, .int .i64 0, .int .i64 0, .bool false, .bool false, .bool false] 52))) := hide (below_al _ _)
            generalize hW : w.alloc (.cells #[.string ⟨#[]⟩, .string ⟨#[]⟩, .int .i64 0, .int .i64 0, .bool false, .bool false, .int .i64 0, .int .i64 0, .bool false, .bool false, .bool false] 52) = W0 at R HB ⊢
            clear hW
            go_wp2_with fail
            refine (unhide HFF _ ((unhide HE).below (unhide HB))).mono ?_
            rintro e wp ⟨FL, rfl, hfl, bp⟩
            replace R := hide (cells_nx (unhide R) bp)
            replace HB := hide (below_nx (unhide HB) bp)
            clear bp
            obtain rfl := hfl trivial
            unfold Fl.cells
            simp only []
            have hlt := cells_lt (unhide R)
            go_upto_region 2 with fail
            have V := hide (cells_new wp 52 #[.string bk, .string sh, .int .i64 c1, .int .i64 r1, .bool f1, .bool g1, .int .i64 c2, .int .i64 r2, .bool f2, .bool g2, .bool true])
            replace R := hide (cells_al (unhide R) (.cells #[.string bk, .string sh, .int .i64 c1, .int .i64 r1, .bool f1, .bool g1, .int .i64 c2, .int .i64 r2, .bool f2, .bool g2, .bool true] 52))
            replace HB := hide ((unhide HB).alloc (unhide HB).size (.cells #[.string bk, .string sh, .int .i64 c1, .int .i64 r1, .bool f1, .bool g1, .int .i64 c2, .int .i64 r2, .bool f2, .bool g2, .bool true] 52))
            have hne : w.heap.size ≠ wp.heap.size := by omega
            generalize hW : wp.alloc (.cells #[.string bk, .string sh, .int .i64 c1, .int .i64 r1, .bool f1, .bool g1, .int .i64 c2, .int .i64 r2, .bool f2, .bool g2, .bool true] 52) = W1 at R V HB ⊢
            clear hW
            obtain ⟨v_0, v_1, v_2, v_3, v_4, v_5, v_6, v_7, v_8, v_9, v_10⟩ := cells11 (unhide V)
            go_wp2_with fail
            refine (unhide H1 _).mono ?_
            rintro e wk1 ⟨rfl, bk1⟩
            replace R := hide (cells_nx (unhide R) bk1)
            replace V := hide (cells_nx (unhide V) bk1)
            replace HB := hide (below_nx (unhide HB) bk1)
            clear bk1
            clear v_0 v_1 v_2 v_3 v_4 v_5 v_6 v_7 v_8 v_9 v_10
            obtain ⟨v_0, v_1, v_2, v_3, v_4, v_5, v_6, v_7, v_8, v_9, v_10⟩ := cells11 (unhide V)
            go_wp2_with fail
            refine (unhide H2 _).mono ?_
            rintro e wk2 ⟨rfl, bk2⟩
            replace R := hide (cells_nx (unhide R) bk2)
            replace V := hide (cells_nx (unhide V) bk2)
            replace HB := hide (below_nx (unhide HB) bk2)
            clear bk2
            clear v_0 v_1 v_2 v_3 v_4 v_5 v_6 v_7 v_8 v_9 v_10
            obtain ⟨v_0, v_1, v_2, v_3, v_4, v_5, v_6, v_7, v_8, v_9, v_10⟩ := cells11 (unhide V)
            go_wp2_with fail
            refine (unhide HCO _).mono ?_
            rintro e wk3 ⟨rfl, bk3⟩
            replace R := hide (cells_nx (unhide R) bk3)
            replace V := hide (cells_nx (unhide V) bk3)
            replace HB := hide (below_nx (unhide HB) bk3)
            clear bk3
            clear v_0 v_1 v_2 v_3 v_4 v_5 v_6 v_7 v_8 v_9 v_10
            obtain ⟨v_0, v_1, v_2, v_3, v_4, v_5, v_6, v_7, v_8, v_9, v_10⟩ := cells11 (unhide V)
            have fz_v_2 := cells_f (unhide V) 2
            have fz_v_3 := cells_f (unhide V) 3
            have fz_v_4 := cells_f (unhide V) 4
            have fz_v_5 := cells_f (unhide V) 5
            have fz_v_6 := cells_f (unhide V) 6
            have fz_v_7 := cells_f (unhide V) 7
            have fz_v_8 := cells_f (unhide V) 8
            have fz_v_9 := cells_f (unhide V) 9
            go_upto_region 8 with fail
            clear v_0 v_1 v_2 v_3 v_4 v_5 v_6 v_7 v_8 v_9 v_10
            clear fz_v_2 fz_v_3 fz_v_4 fz_v_5 fz_v_6 fz_v_7 fz_v_8 fz_v_9
            replace V := hide (cells_mid8 (unhide V) (.int .i64 p.col) (.int .i64 p.row) (.bool p.fc) (.bool p.fr) (.int .i64 q.col) (.int .i64 q.row) (.bool q.fc) (.bool q.fr))
            replace R := hide (cells_set_far (cells_set_far (cells_set_far (cells_set_far (cells_set_far (cells_set_far (cells_set_far (cells_set_far (unhide R) hne 2 (.int .i64 p.col)) hne 3 (.int .i64 p.row)) hne 4 (.bool p.fc)) hne 5 (.bool p.fr)) hne 6 (.int .i64 q.col)) hne 7 (.int .i64 q.row)) hne 8 (.bool q.fc)) hne 9 (.bool q.fr))
            replace HB := hide (below_set (B := wp.heap.size) (i := 9) (below_set (B := wp.heap.size) (i := 8) (below_set (B := wp.heap.size) (i := 7) (below_set (B := wp.heap.size) (i := 6) (below_set (B := wp.heap.size) (i := 5) (below_set (B := wp.heap.size) (i := 4) (below_set (B := wp.heap.size) (i := 3) (below_set (B := wp.heap.size) (i := 2) (unhide HB) (by omega) (.int .i64 p.col)) (by omega) (.int .i64 p.row)) (by omega) (.bool p.fc)) (by omega) (.bool p.fr)) (by omega) (.int .i64 q.col)) (by omega) (.int .i64 q.row)) (by omega) (.bool q.fc)) (by omega) (.bool q.fr))
            generalize hW : (((((((wk3.setCell ⟨wp.heap.size, 2, none⟩ (.int .i64 p.col)).setCell ⟨wp.heap.size, 3, none⟩ (.int .i64 p.row)).setCell ⟨wp.heap.size, 4, none⟩ (.bool p.fc)).setCell ⟨wp.heap.size, 5, none⟩ (.bool p.fr)).setCell ⟨wp.heap.size, 6, none⟩ (.int .i64 q.col)).setCell ⟨wp.heap.size, 7, none⟩ (.int .i64 q.row)).setCell ⟨wp.heap.size, 8, none⟩ (.bool q.fc)).setCell ⟨wp.heap.size, 9, none⟩ (.bool q.fr) = W2 at R V HB ⊢
            clear hW
            obtain ⟨v_0, v_1, v_2, v_3, v_4, v_5, v_6, v_7, v_8, v_9, v_10⟩ := cells11 (unhide V)
            go_wp2_with fail
            refine (unhide HG _).mono ?_
            rintro e wk4 ⟨rfl, bk4⟩
            replace R := hide (cells_nx (unhide R) bk4)
            replace V := hide (cells_nx (unhide V) bk4)
            replace HB := hide (below_nx (unhide HB) bk4)
            clear bk4
            clear v_0 v_1 v_2 v_3 v_4 v_5 v_6 v_7 v_8 v_9 v_10
            obtain ⟨r_0, r_1, r_2, r_3, r_4, r_5, r_6, r_7, r_8, r_9, r_10⟩ := cells11 (unhide R)
            have fz_r_0 := cells_f (unhide R) 0
            have fz_r_1 := cells_f (unhide R) 1
            have fz_r_2 := cells_f (unhide R) 2
            have fz_r_3 := cells_f (unhide R) 3
            have fz_r_4 := cells_f (unhide R) 4
            have fz_r_5 := cells_f (unhide R) 5
            have fz_r_6 := cells_f (unhide R) 6
            have fz_r_7 := cells_f (unhide R) 7
            have fz_r_8 := cells_f (unhide R) 8
            have fz_r_9 := cells_f (unhide R) 9
            have fz_r_10 := cells_f (unhide R) 10
            go_wp2
            refine bodyPost_ret (results_c1t rfl _ _ _ _ _ _ rfl (cells_set11 (unhide R) _ _ _ _ _ _ _ _ _ _ _) Tryz.underlying52 rfl (by exact infoF) _ rfl) rfl ?_
            exact ⟨rfl, below_set11 (unhide HB) (Nat.le_refl _) _ _ _ _ _ _ _ _ _ _ _⟩
          · rw [q3] at HG
            rw [if_pos rfl]
            clear q3
            unfold Fl.cells
            simp only []
            go_enter Tryz.func148, Tryz.ntmps148
            go_upto_region 1 with fail
            have R := hide (cells_new w 52 #[.string ⟨#[]⟩, .string ⟨#[]⟩, .int .i64 0, .int .i64 0, .bool false, .bool false, .int .i64 0, .int .i64 0, .bool false, .bool false, .bool false])
            have HB : Hid (Below w.heap.size w (w.alloc (.cells #[.string ⟨#[]⟩, .string ⟨#[]⟩, .int .i64 0, .int .i64 0, .bool false, .bool false, .int .i64 0, .int .i64 0, .bool false, .bool false, .bool false] 52))) := hide (below_al _ _)
            generalize hW : w.alloc (.cells #[.string ⟨#[]⟩, .string ⟨#[]⟩, .int .i64 0, .int .i64 0, .bool false, .bool false, .int .i64 0, .int .i64 0, .bool false, .bool false, .bool false] 52) = W0 at R HB ⊢
            clear hW
            go_wp2_with fail
            refine (unhide HFF _ ((unhide HE).below (unhide HB))).mono ?_
            rintro e wp ⟨FL, rfl, hfl, bp⟩
            replace R := hide (cells_nx (unhide R) bp)
            replace HB := hide (below_nx (unhide HB) bp)
            clear bp
            obtain rfl := hfl trivial
            unfold Fl.cells
            simp only []
            have hlt := cells_lt (unhide R)
            go_upto_region 2 with fail
            have V := hide (cells_new wp 52 #[.string bk, .string sh, .int .i64 c1, .int .i64 r1, .bool f1, .bool g1, .int .i64 c2, .int .i64 r2, .bool f2, .bool g2, .bool true])
            replace R := hide (cells_al (unhide R) (.cells #[.string bk, .string sh, .int .i64 c1, .int .i64 r1, .bool f1, .bool g1, .int .i64 c2, .int .i64 r2, .bool f2, .bool g2, .bool true] 52))
            replace HB := hide ((unhide HB).alloc (unhide HB).size (.cells #[.string bk, .string sh, .int .i64 c1, .int .i64 r1, .bool f1, .bool g1, .int .i64 c2, .int .i64 r2, .bool f2, .bool g2, .bool true] 52))
            have hne : w.heap.size ≠ wp.heap.size := by omega
            generalize hW : wp.alloc (.cells #[.string bk, .string sh, .int .i64 c1, .int .i64 r1, .bool f1, .bool g1, .int .i64 c2, .int .i64 r2, .bool f2, .bool g2, .bool true] 52) = W1 at R V HB ⊢
            clear hW
            obtain ⟨v_0, v_1, v_2, v_3, v_4, v_5, v_6, v_7, v_8, v_9, v_10⟩ := cells11 (unhide V)
            go_wp2_with fail
            refine (unhide H1 _).mono ?_
            rintro e wk1 ⟨rfl, bk1⟩
            replace R := hide (cells_nx (unhide R) bk1)
            replace V := hide (cells_nx (unhide V) bk1)
            replace HB := hide (below_nx (unhide HB) bk1)
            clear bk1
            clear v_0 v_1 v_2 v_3 v_4 v_5 v_6 v_7 v_8 v_9 v_10
            obtain ⟨v_0, v_1, v_2, v_3, v_4, v_5, v_6, v_7, v_8, v_9, v_10⟩ := cells11 (unhide V)
            go_wp2_with fail
            refine (unhide H2 _).mono ?_
            rintro e wk2 ⟨rfl, bk2⟩
            replace R := hide (cells_nx (unhide R) bk2)
            replace V := hide (cells_nx (unhide V) bk2)
            replace HB := hide (below_nx (unhide HB) bk2)
            clear bk2
            clear v_0 v_1 v_2 v_3 v_4 v_5 v_6 v_7 v_8 v_9 v_10
            obtain ⟨v_0, v_1, v_2, v_3, v_4, v_5, v_6, v_7, v_8, v_9, v_10⟩ := cells11 (unhide V)
            go_wp2_with fail
            refine (unhide HCO _).mono ?_
            rintro e wk3 ⟨rfl, bk3⟩
            replace R := hide (cells_nx (unhide R) bk3)
            replace V := hide (cells_nx (unhide V) bk3)
            replace HB := hide (below_nx (unhide HB) bk3)
            clear bk3
            clear v_0 v_1 v_2 v_3 v_4 v_5 v_6 v_7 v_8 v_9 v_10
            obtain ⟨v_0, v_1, v_2, v_3, v_4, v_5, v_6, v_7, v_8, v_9, v_10⟩ := cells11 (unhide V)
            have fz_v_2 := cells_f (unhide V) 2
            have fz_v_3 := cells_f (unhide V) 3
            have fz_v_4 := cells_f (unhide V) 4
            have fz_v_5 := cells_f (unhide V) 5
            have fz_v_6 := cells_f (unhide V) 6
            have fz_v_7 := cells_f (unhide V) 7
            have fz_v_8 := cells_f (unhide V) 8
            have fz_v_9 := cells_f (unhide V) 9
            go_upto_region 8 with fail
            clear v_0 v_1 v_2 v_3 v_4 v_5 v_6 v_7 v_8 v_9 v_10
            clear fz_v_2 fz_v_3 fz_v_4 fz_v_5 fz_v_6 fz_v_7 fz_v_8 fz_v_9
            replace V := hide (cells_mid8 (unhide V) (.int .i64 p.col) (.int .i64 p.row) (.bool p.fc) (.bool p.fr) (.int .i64 q.col) (.int .i64 q.row) (.bool q.fc) (.bool q.fr))
            replace R := hide (cells_set_far (cells_set_far (cells_set_far (cells_set_far (cells_set_far (cells_set_far (cells_set_far (cells_set_far (unhide R) hne 2 (.int .i64 p.col)) hne 3 (.int .i64 p.row)) hne 4 (.bool p.fc)) hne 5 (.bool p.fr)) hne 6 (.int .i64 q.col)) hne 7 (.int .i64 q.row)) hne 8 (.bool q.fc)) hne 9 (.bool q.fr))
            replace HB := hide (below_set (B := wp.heap.size) (i := 9) (below_set (B := wp.heap.size) (i := 8) (below_set (B := wp.heap.size) (i := 7) (below_set (B := wp.heap.size) (i := 6) (below_set (B := wp.heap.size) (i := 5) (below_set (B := wp.heap.size) (i := 4) (below_set (B := wp.heap.size) (i := 3) (below_set (B := wp.heap.size) (i := 2) (unhide HB) (by omega) (.int .i64 p.col)) (by omega) (.int .i64 p.row)) (by omega) (.bool p.fc)) (by omega) (.bool p.fr)) (by omega) (.int .i64 q.col)) (by omega) (.int .i64 q.row)) (by omega) (.bool q.fc)) (by omega) (.bool q.fr))
            generalize hW : (((((((wk3.setCell ⟨wp.heap.size, 2, none⟩ (.int .i64 p.col)).setCell ⟨wp.heap.size, 3, none⟩ (.int .i64 p.row)).setCell ⟨wp.heap.size, 4, none⟩ (.bool p.fc)).setCell ⟨wp.heap.size, 5, none⟩ (.bool p.fr)).setCell ⟨wp.heap.size, 6, none⟩ (.int .i64 q.col)).setCell ⟨wp.heap.size, 7, none⟩ (.int .i64 q.row)).setCell ⟨wp.heap.size, 8, none⟩ (.bool q.fc)).setCell ⟨wp.heap.size, 9, none⟩ (.bool q.fr) = W2 at R V HB ⊢
            clear hW
            obtain ⟨v_0, v_1, v_2, v_3, v_4, v_5, v_6, v_7, v_8, v_9, v_10⟩ := cells11 (unhide V)
            go_wp2_with fail
            refine (unhide HG _).mono ?_
            rintro e wk4 ⟨rfl, bk4⟩
            replace R := hide (cells_nx (unhide R) bk4)
            replace V := hide (cells_nx (unhide V) bk4)
            replace HB := hide (below_nx (unhide HB) bk4)
            clear bk4
            clear v_0 v_1 v_2 v_3 v_4 v_5 v_6 v_7 v_8 v_9 v_10
            obtain ⟨v_0, v_1, v_2, v_3, v_4, v_5, v_6, v_7, v_8, v_9, v_10⟩ := cells11 (unhide V)
            obtain ⟨r_0, r_1, r_2, r_3, r_4, r_5, r_6, r_7, r_8, r_9, r_10⟩ := cells11 (unhide R)
            have fz_r_0 := cells_f (unhide R) 0
            have fz_r_1 := cells_f (unhide R) 1
            have fz_r_2 := cells_f (unhide R) 2
            have fz_r_3 := cells_f (unhide R) 3
            have fz_r_4 := cells_f (unhide R) 4
            have fz_r_5 := cells_f (unhide R) 5
            have fz_r_6 := cells_f (unhide R) 6
            have fz_r_7 := cells_f (unhide R) 7
            have fz_r_8 := cells_f (unhide R) 8
            have fz_r_9 := cells_f (unhide R) 9
            have fz_r_10 := cells_f (unhide R) 10
            go_wp2
            refine bodyPost_ret (results_c1t rfl _ _ _ _ _ _ rfl (cells_set11 (unhide R) _ _ _ _ _ _ _ _ _ _ _) Tryz.underlying52 rfl (by exact infoF) _ rfl) rfl ?_
            exact ⟨rfl, below_set11 (unhide HB) (Nat.le_refl _) _ _ _ _ _ _ _ _ _ _ _⟩
end Go.Proofs.YtloamahbghjjgaaGreatDoor
