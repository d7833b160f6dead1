/- What the frames of the laws of layer 1 share: the table of powers of ten and the cell of MaxLen, out of a law's first world. -/
import Derived.Test.YtobkmjjdnfimoaaDoorLwA
import Derived.Test.YtobkmjjdnfimoaaDoorCards
import Derived.Test.YtobkmjjdnfimoaaDoorTie
import Derived.ProofKit
import Derived.OpenShut
import Derived.Lay
import Derived.SevenTiedAt
import Derived.Stop.Joined
import Derived.Lib.LaidTab
import Derived.LaidSub
import Derived.Deep.DeepHandedRow
namespace Go.Proofs.YtobkmjjdnfimoaaDoor
open Go.ChangeShapes Go.WideShapes Go.ChangeAt Go.RowKit

theorem own : ownKnob Tryd.prog.godebug = none := by kernel_rfl
theorem gTab : Tryd.prog.globalNamed "internal/strconv.uint64pow10" = some 3 := by kernel_rfl
theorem gTabType : (Tryd.prog.globals[3]?).map (·.type) = some 98 := by kernel_rfl
theorem cellsTab : Tryd.prog.cellsOf 98 = 20 := by kernel_rfl
theorem cells51 : Tryd.prog.cellsOf 51 = 1 := by kernel_rfl

/-- The one list that every law of this seat lists. -/
abbrev laidAll : List (String × DataW Unit) := Rows.fixedBackRow.laid
theorem laid_one : (laidAll.filter fun x => x.1 == "internal/strconv.uint64pow10") = [("internal/strconv.uint64pow10", Lib.tabData .u64 Lib.pow10Tab)] := by kernel_rfl

theorem tab_of {W : World} (h : laidMetH Tryd.prog laidAll W) : powTab W := by
  have h1 := h.filter (fun x => x.1 == "internal/strconv.uint64pow10")
  rw [laid_one] at h1
  exact Lib.tabIs_of_head (rest := []) gTab gTabType Tryd.underlying98 Tryd.underlying51 cells51 cellsTab h1
theorem env_of {W : World} (h : laidMetH Tryd.prog laidAll W) (hs : W.ShapedOpen Tryd.prog) : Env W := ⟨tab_of h, Tryd.laysM145.s1_3 W hs⟩

theorem laid_met (os : Os) (args : Array Value) : laidMet Tryd.prog laidAll ((World.laidAll Tryd.prog os laidAll).forCall (fun _ _ => 0) ⟨#[], args, []⟩).memory :=
  laidMet_laidAll _ (by kernel_rfl) (by kernel_rfl)
end Go.Proofs.YtobkmjjdnfimoaaDoor
