/- What the frames of the laws of layer 3 share: the listed tables out of a law's first world; a value as an argument, opened and shut. -/
import Derived.Test.YteaodfeaidjcnaaGreatDoorVpV
import Derived.Test.YteaodfeaidjcnaaGreatDoorVpF
import Derived.Test.YteaodfeaidjcnaaGreatDoorCards
import Derived.Test.YteaodfeaidjcnaaGreatDoorTie
import Derived.Test.YteaodfeaidjcnaaGreatDoorShelf
import Derived.ProofKit
import Derived.OpenShut
import Derived.Lay
import Derived.SevenTiedAt
import Derived.Stop.Joined
import Derived.Lib.LaidTab
import Derived.LaidSub
import Derived.Deep.DeepHandedRow
namespace Go.Proofs.YteaodfeaidjcnaaGreatDoor
open Go.ChangeShapes Go.WideShapes Go.ChangeAt Go.RowKit

theorem own : ownKnob Tryz.prog.godebug = none := by kernel_rfl
theorem gTab : Tryz.prog.globalNamed "internal/strconv.uint64pow10" = some 6 := by kernel_rfl
theorem gTabType : (Tryz.prog.globals[6]?).map (·.type) = some 151 := by kernel_rfl
theorem cellsTab : Tryz.prog.cellsOf 151 = 20 := by kernel_rfl
theorem cellsU : Tryz.prog.cellsOf 79 = 1 := by kernel_rfl
theorem gSig : Tryz.prog.globalNamed "lattice/value.signs" = some 0 := by kernel_rfl
theorem gSigType : (Tryz.prog.globals[0]?).map (·.type) = some 116 := by kernel_rfl
theorem cellsS : Tryz.prog.cellsOf 9 = 1 := by kernel_rfl

/-- A table of texts as a row lists it. -/
def strData {H : Type} (zs : List (List UInt8)) : DataW H := .agg (zs.map fun z => .lit (.string z))
theorem strs_of_laid {P : Program} {W : World} {name : String} {zs : List (List UInt8)} {g : Nat} {t e : TypeId} {n : Nat}
    (hg : P.globalNamed name = some g) (hty : (P.globals[g]?).map (·.type) = some t) (ht : P.underlying t = some (.array n e)) (he : P.underlying e = some .string) (hce : P.cellsOf e = 1)
    (h : laidMet P [(name, strData zs)] W) (i : Nat) (z : List UInt8) (hz : zs[i]? = some z) : W.cell? ⟨g, i, none⟩ = some (.string ⟨z.toArray⟩) := by
  obtain ⟨ps, ⟨g', t', cs, fuel, p, q, hg', ht', hvar, hd, _, _⟩, _⟩ := h
  obtain rfl := Option.some.inj (hg.symm.trans hg')
  obtain rfl := Option.some.inj (hty.symm.trans ht')
  obtain ⟨xs, m, _, hx, _, hl, hi⟩ := DataW.trod_array ht hd
  have hxs : xs.map (·.1) = zs.map fun z => (DataW.lit (.string z) : DataW Unit) := by
    have := congrArg Prod.fst hx
    simpa [strData] using this.symm
  have hzl : zs.length = n := by
    have := congrArg List.length hxs
    simp at this
    omega
  have hin : i < n := by
    have := (List.getElem?_eq_some_iff.1 hz).1
    omega
  have h0 := hi i hin
  obtain ⟨b, hb⟩ : ∃ b, xs[i]? = some b := ⟨xs[i]'(by omega), List.getElem?_eq_getElem (by omega)⟩
  rw [hb, hce, Nat.mul_one] at h0
  obtain ⟨s, hc, rfl, _⟩ := DataW.trod_string he h0
  have h1 : cs[i]? = some (.string s) := by
    have := congrArg (·[0]?) hc
    simpa [List.getElem?_take, List.getElem?_drop] using this
  have h2 : (xs.map (·.1))[i]? = some (DataW.lit (.string s.data.toList) : DataW Unit) := by simp [hb]
  rw [hxs] at h2
  simp only [List.getElem?_map, Option.map_eq_some_iff, DataW.lit.injEq, Lit.string.injEq] at h2
  obtain ⟨z', hz', e1⟩ := h2
  rw [hz] at hz'
  obtain rfl := Option.some.inj hz'
  have := World.var?_cell hg hvar i
  rw [e1]
  simpa [h1] using this

/-- The one list that every law of this seat lists. -/
abbrev laidAll : List (String × DataW Unit) := Rows.valueBytesRow.laid
theorem laid_one : (laidAll.filter fun x => x.1 == "internal/strconv.uint64pow10") = [("internal/strconv.uint64pow10", Lib.tabData .u64 Lib.pow10Tab)] := by kernel_rfl
theorem laid_sig : (laidAll.filter fun x => x.1 == "lattice/value.signs") = [("lattice/value.signs", strData (signL.map (·.data.toList)))] := by kernel_rfl

theorem tab_of {W : World} (h : laidMetH Tryz.prog laidAll W) : powTab W := by
  have h1 := h.filter (fun x => x.1 == "internal/strconv.uint64pow10")
  rw [laid_one] at h1
  exact Lib.tabIs_of_head (rest := []) gTab gTabType Tryz.underlying151 Tryz.underlying79 cellsU cellsTab h1
theorem sig_of {W : World} (h : laidMetH Tryz.prog laidAll W) : signTab W := by
  have h1 := h.filter (fun x => x.1 == "lattice/value.signs")
  rw [laid_sig] at h1
  intro i hi
  have h9 : i = 0 ∨ i = 1 ∨ i = 2 ∨ i = 3 ∨ i = 4 ∨ i = 5 ∨ i = 6 ∨ i = 7 ∨ i = 8 := by omega
  have := fun z hz => strs_of_laid gSig gSigType Tryz.underlying116 Tryz.underlying9 cellsS h1 i z hz
  rcases h9 with rfl | rfl | rfl | rfl | rfl | rfl | rfl | rfl | rfl <;> exact this _ rfl
theorem env_of {W : World} (h : laidMetH Tryz.prog laidAll W) (hs : W.ShapedOpen Tryz.prog) : Env3 W := ⟨tab_of h, Tryz.laysM145.s1_3 W hs, sig_of h⟩
theorem laid_met (os : Os) (args : Array Value) : laidMet Tryz.prog laidAll ((World.laidAll Tryz.prog os laidAll).forCall (fun _ _ => 0) ⟨#[], args, []⟩).memory :=
  laidMet_laidAll _ (by kernel_rfl) (by kernel_rfl)

theorem cellsV : Tryz.prog.cellsOf 23 = 5 := by kernel_rfl
theorem cellsI : Tryz.prog.cellsOf 3 = 1 := by kernel_rfl
theorem cellsJ : Tryz.prog.cellsOf 2 = 1 := by kernel_rfl
theorem cellsB : Tryz.prog.cellsOf 4 = 1 := by kernel_rfl
/-- What a value reads as. -/
def Vl.data {H : Type} (x : Vl) : DataW H := .agg [.lit (.int .i64 x.kind), .lit (.int .i64 x.num), .lit (.string x.text.data.toList), .lit (.bool x.tr), .lit (.int .i64 x.fail)]
/-- Its numbers and its text are such as Go's are. -/
structure Vl.Fits (x : Vl) : Prop where
  kind : (Lit.int .i64 x.kind).wf = true
  num : (Lit.int .i64 x.num).wf = true
  text : x.text.size ≤ maxLen
  fail : (Lit.int .i64 x.fail).wf = true
section
variable {H : Type} {enc : TypeId × Value → H} {W : World} {base : Nat} {sp : Nat → Bool} {held : Bool}
set_option maxRecDepth 100000 in
/-- A value as an argument, opened. -/
theorem open_val {r : Reach} {b0 : Nat} {v : Value} {d : DataW H} {ps : List MemPlace} (hval : Value.okWide Tryz.prog W r b0 23 v) (hd : DataW.Trod enc Tryz.prog W base sp held 23 v d ps) :
    ∃ x : Vl, v = .agg x.cells ∧ d = x.data ∧ ps = [] ∧ x.Fits := by
  simp only [Value.okWide, Tryz.underlying23] at hval
  obtain ⟨⟨cs⟩, rfl, hn, _⟩ := hval
  rw [cellsV] at hn
  obtain ⟨c0, c1, c2, c3, c4, rfl⟩ : ∃ c0 c1 c2 c3 c4, cs = [c0, c1, c2, c3, c4] := by
    match cs, hn with
    | [a, b, c, d, e], _ => exact ⟨a, b, c, d, e, rfl⟩
  obtain ⟨fuel, hf⟩ := hd
  obtain ⟨xs, m, _, hx, _, hl, hi⟩ := DataW.trod_struct Tryz.underlying23 hf
  obtain ⟨x0, x1, x2, x3, x4, rfl⟩ : ∃ x0 x1 x2 x3 x4, xs = [x0, x1, x2, x3, x4] := by
    match xs, hl with
    | [a, b, c, d, e], _ => exact ⟨a, b, c, d, e, rfl⟩
  have h0 : DataW.trod enc Tryz.prog W base sp held m 3 ((([c0, c1, c2, c3, c4] : List Value).drop 0).take (Tryz.prog.cellsOf 3)) = some x0 := hi 0 _ rfl
  rw [cellsI] at h0
  have h1 : DataW.trod enc Tryz.prog W base sp held m 2 ((([c0, c1, c2, c3, c4] : List Value).drop 1).take (Tryz.prog.cellsOf 2)) = some x1 := hi 1 _ rfl
  rw [cellsJ] at h1
  have h2 : DataW.trod enc Tryz.prog W base sp held m 9 ((([c0, c1, c2, c3, c4] : List Value).drop 2).take (Tryz.prog.cellsOf 9)) = some x2 := hi 2 _ rfl
  rw [cellsS] at h2
  have h3 : DataW.trod enc Tryz.prog W base sp held m 4 ((([c0, c1, c2, c3, c4] : List Value).drop 3).take (Tryz.prog.cellsOf 4)) = some x3 := hi 3 _ rfl
  rw [cellsB] at h3
  have h4 : DataW.trod enc Tryz.prog W base sp held m 3 ((([c0, c1, c2, c3, c4] : List Value).drop 4).take (Tryz.prog.cellsOf 3)) = some x4 := hi 4 _ rfl
  rw [cellsI] at h4
  obtain ⟨a, ea, da, wa⟩ := DataW.trod_int Tryz.underlying3 h0
  obtain ⟨b, eb, db, wb⟩ := DataW.trod_int Tryz.underlying2 h1
  obtain ⟨s, es, dS, wS⟩ := DataW.trod_string Tryz.underlying9 h2
  obtain ⟨t, et, dt⟩ := DataW.trod_bool Tryz.underlying4 h3
  obtain ⟨f, ef, df, wf⟩ := DataW.trod_int Tryz.underlying3 h4
  simp at ea eb es et ef
  subst ea eb es et ef da db dS dt df
  simp only [Prod.mk.injEq] at hx
  exact ⟨⟨a, b, s, t, f⟩, rfl, hx.1, hx.2, ⟨wa, wb, wS, wf⟩⟩
/-- The same, shut. -/
theorem shut_val {x : Vl} (h : x.Fits) : DataW.Trod enc Tryz.prog W base sp held 23 (.agg x.cells) x.data [] := by
  refine ⟨2, ?_⟩
  show DataW.trod enc Tryz.prog W base sp held (1 + 1) 23 [.int .i64 x.kind, .int .i64 x.num, .string x.text, .bool x.tr, .int .i64 x.fail] = _
  rw [DataW.trod_step]
  unfold DataW.trodStep
  simp only [Tryz.underlying23]
  rw [if_pos (by rw [cellsV]; rfl)]
  simp [cellsI, cellsJ, cellsB, cellsS, DataW.trod, Tryz.underlying3, Tryz.underlying2, Tryz.underlying9, Tryz.underlying4, h.kind, h.num, h.text, h.fail, Vl.data]
end
end Go.Proofs.YteaodfeaidjcnaaGreatDoor
