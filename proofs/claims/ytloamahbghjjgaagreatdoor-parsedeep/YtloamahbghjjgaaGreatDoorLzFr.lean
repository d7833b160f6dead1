/- What the frames of the laws of layer 5 share: the listed tables out of a law's first world. -/
import Derived.Test.YtloamahbghjjgaaGreatDoorLxE
import Derived.Test.YtloamahbghjjgaaGreatDoorCards
import Derived.Test.YtloamahbghjjgaaGreatDoorTie
import Derived.Test.YtloamahbghjjgaaGreatDoorShelf
import Derived.ProofKit
import Derived.OpenShut
import Derived.Lay
import Derived.SevenTiedAt
import Derived.Stop.Joined
import Derived.Lib.LaidTab
import Derived.LaidSub
import Derived.Deep.DeepHandedRow
namespace Go.Proofs.YtloamahbghjjgaaGreatDoor
open Go.ChangeShapes Go.WideShapes Go.ChangeAt Go.RowKit

theorem own5 : ownKnob Tryz.prog.godebug = none := by kernel_rfl
theorem gTab5 : Tryz.prog.globalNamed "internal/strconv.uint64pow10" = some 7 := by kernel_rfl
theorem gTabType5 : (Tryz.prog.globals[7]?).map (·.type) = some 269 := by kernel_rfl
theorem cellsTab5 : Tryz.prog.cellsOf 269 = 20 := by kernel_rfl
theorem cellsU5 : Tryz.prog.cellsOf 208 = 1 := by kernel_rfl
theorem gSig5 : Tryz.prog.globalNamed "lattice/value.signs" = some 1 := by kernel_rfl
theorem gSigType5 : (Tryz.prog.globals[1]?).map (·.type) = some 219 := by kernel_rfl
theorem gTwo5 : Tryz.prog.globalNamed "lattice/lex.twoSigns" = some 0 := by kernel_rfl
theorem gTwoType5 : (Tryz.prog.globals[0]?).map (·.type) = some 186 := by kernel_rfl
theorem cellsS5 : Tryz.prog.cellsOf 9 = 1 := by kernel_rfl

/-- A table of texts as a row lists it. -/
def strData {H : Type} (zs : List (List UInt8)) : DataW H := .agg (zs.map fun z => .lit (.string z))
theorem strs_of_laid {P : Program} {W : World} {name : String} {zs : List (List UInt8)} {g : Nat} {t e : TypeId} {n : Nat}
    (hg : P.globalNamed name = some g) (hty : (P.globals[g]?).map (·.type) = some t) (ht : P.underlying t = some (.array n e)) (he : P.underlying e = some .string) (hce : P.cellsOf e = 1)
    (h : laidMet P [(name, strData zs)] W) (i : Nat) (z : List UInt8) (hz : zs[i]? = some z) : W.cell? ⟨g, i, none⟩ = some (.string ⟨z.toArray⟩) := by
  obtain ⟨ps, ⟨g', t', cs, fuel, p, q, hg', ht', hvar, hd, _, _⟩, _⟩ := h
  obtain rfl := Option.some.inj (hg.symm.trans hg')
  obtain rfl := Option.some.inj (hty.symm.trans ht')
  obtain ⟨xs, m, _, hx, _, hl, hi⟩ := DataW.trod_array ht hd
  have hxs : xs.map (·.1) = zs.map fun z => (DataW.lit (.string z) : DataW Unit) := by
    have := congrArg Prod.fst hx
    simpa [strData] using this.symm
  have hzl : zs.length = n := by
    have := congrArg List.length hxs
    simp at this
    omega
  have hin : i < n := by
    have := (List.getElem?_eq_some_iff.1 hz).1
    omega
  have h0 := hi i hin
  obtain ⟨b, hb⟩ : ∃ b, xs[i]? = some b := ⟨xs[i]'(by omega), List.getElem?_eq_getElem (by omega)⟩
  rw [hb, hce, Nat.mul_one] at h0
  obtain ⟨s, hc, rfl, _⟩ := DataW.trod_string he h0
  have h1 : cs[i]? = some (.string s) := by
    have := congrArg (·[0]?) hc
    simpa [List.getElem?_take, List.getElem?_drop] using this
  have h2 : (xs.map (·.1))[i]? = some (DataW.lit (.string s.data.toList) : DataW Unit) := by simp [hb]
  rw [hxs] at h2
  simp only [List.getElem?_map, Option.map_eq_some_iff, DataW.lit.injEq, Lit.string.injEq] at h2
  obtain ⟨z', hz', e1⟩ := h2
  rw [hz] at hz'
  obtain rfl := Option.some.inj hz'
  have := World.var?_cell hg hvar i
  rw [e1]
  simpa [h1] using this

/-- The one list that every law of this seat lists. -/
abbrev laid5 : List (String × DataW Unit) := Rows.parseReadsRow.laid
theorem laid5_one : (laid5.filter fun x => x.1 == "internal/strconv.uint64pow10") = [("internal/strconv.uint64pow10", Lib.tabData .u64 Lib.pow10Tab)] := by kernel_rfl
theorem laid5_sig : (laid5.filter fun x => x.1 == "lattice/value.signs") = [("lattice/value.signs", strData (signL.map (·.data.toList)))] := by kernel_rfl
theorem laid5_two : (laid5.filter fun x => x.1 == "lattice/lex.twoSigns") = [("lattice/lex.twoSigns", strData [[60, 61], [62, 61], [60, 62]])] := by kernel_rfl
theorem tab5_of {W : World} (h : laidMetH Tryz.prog laid5 W) : Lib.TabIs Tryz.prog W "internal/strconv.uint64pow10" .u64 Lib.pow10Tab := by
  have h1 := h.filter (fun x => x.1 == "internal/strconv.uint64pow10")
  rw [laid5_one] at h1
  exact Lib.tabIs_of_head (rest := []) gTab5 gTabType5 Tryz.underlying269 Tryz.underlying208 cellsU5 cellsTab5 h1
theorem sig5_of {W : World} (h : laidMetH Tryz.prog laid5 W) : signTab W := by
  have h1 := h.filter (fun x => x.1 == "lattice/value.signs")
  rw [laid5_sig] at h1
  intro i hi
  have h9 : i = 0 ∨ i = 1 ∨ i = 2 ∨ i = 3 ∨ i = 4 ∨ i = 5 ∨ i = 6 ∨ i = 7 ∨ i = 8 := by omega
  have := fun z hz => strs_of_laid gSig5 gSigType5 Tryz.underlying219 Tryz.underlying9 cellsS5 h1 i z hz
  rcases h9 with rfl | rfl | rfl | rfl | rfl | rfl | rfl | rfl | rfl <;> exact this _ rfl
theorem two5_of {W : World} (h : laidMetH Tryz.prog laid5 W) : twoTab W := by
  have h1 := h.filter (fun x => x.1 == "lattice/lex.twoSigns")
  rw [laid5_two] at h1
  have := fun i z hz => strs_of_laid gTwo5 gTwoType5 Tryz.underlying186 Tryz.underlying9 cellsS5 h1 i z hz
  exact ⟨this 0 _ rfl, this 1 _ rfl, this 2 _ rfl⟩
theorem env5_of {W : World} (h : laidMetH Tryz.prog laid5 W) (hs : W.ShapedOpen Tryz.prog) : Env5 W := ⟨⟨tab5_of h, Tryz.laysM145.s1_3 W hs⟩, sig5_of h, two5_of h⟩
theorem laid5_met (os : Os) (args : Array Value) : laidMet Tryz.prog laid5 ((World.laidAll Tryz.prog os laid5).forCall (fun _ _ => 0) ⟨#[], args, []⟩).memory :=
  laidMet_laidAll _ (by kernel_rfl) (by kernel_rfl)
end Go.Proofs.YtloamahbghjjgaaGreatDoor
