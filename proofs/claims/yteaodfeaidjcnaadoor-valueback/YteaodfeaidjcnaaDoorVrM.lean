/- Toward the contract of the reference's Get, of layer 3: its plain picture, and where nothing is read. -/
import Derived.Test.YteaodfeaidjcnaaDoorVrL
namespace Go.Proofs.YteaodfeaidjcnaaDoor
open Go.RowKit

/-- A row and two slots as results. -/
theorem results_row3 {P : Program} {fn : Func} {p a b : Tmp} {ty : TypeId} (h : fn.results = #[.cell p ty, .tmp a, .tmp b]) (tmps : Array Value) (w : World) (g : Nat) (t : TypeId) (cs : Array Value) (fr : Nat × Nat) (d : TypeDesc)
    (hp : tmps.getD p undef = .pointer (some ⟨g, 0, none⟩)) (hg : w.heap[g]? = some (.cells cs t fr))
    (hu : P.underlying ty = some d) (hd : (match d with | .struct _ | .array _ _ => true | _ => false) = true) (hi : (P.info? ty).map (·.size) = some cs.size)
    (x y : Value) (hx : tmps.getD a undef = x) (hy : tmps.getD b undef = y) :
    (results fn tmps).run P w = .ok (.tuple #[.agg cs, x, y]) w := by
  have hp' : tmps[p]?.getD undef = .pointer (some ⟨g, 0, none⟩) := by simpa using hp
  have hx' : tmps[a]?.getD undef = x := by simpa using hx
  have hy' : tmps[b]?.getD undef = y := by simpa using hy
  simp [results, h, hp', hx', hy', asAddr, run_loadVar_row w g t ty cs fr d hg hu hd hi]

def blank0 : Vl := ⟨0, 0, noText, false, 0⟩
def gB (t : ByteArray) (i : Nat) : Int := ((byteAt t i).toNat : Int)
/-- The eight bytes behind the first, as a number. -/
def num8 (t : ByteArray) : Nat → Int
  | 0 => 0
  | i + 1 => 256 * num8 t i + gB t (i + 1)
/-- What lies at the head of a text, and its length. -/
def getT (t : ByteArray) : Vl × Int :=
  if gB t 0 = 1 then (⟨1, if 9 ≤ t.size then wrap64 (num8 t 8) else 0, noText, false, 0⟩, 9)
  else if gB t 0 = 2 then (if 2 ≤ t.size then (⟨2, 0, if 2 + gB t 1 ≤ t.size then t.extract 2 (2 + gB t 1).toNat else noText, false, 0⟩, 2 + gB t 1) else (⟨2, 0, noText, false, 0⟩, 2))
  else if gB t 0 = 3 then (⟨3, 0, noText, if 2 ≤ t.size then gB t 1 != 0 else false, 0⟩, 2)
  else if gB t 0 = 4 then (⟨4, 0, noText, false, if 2 ≤ t.size then gB t 1 else 0⟩, 2)
  else (⟨gB t 0, 0, noText, false, 0⟩, 1)
def getR (t : ByteArray) (k : Int) : Vl × Int × Int :=
  if t.size = 0 then (blank0, 0, 4) else if gB t 0 = 3 ∧ 2 ≤ t.size ∧ 1 < gB t 1 then (blank0, 0, 4)
    else if vGood (getT t).1 = true ∧ (getT t).2 ≤ t.size then ((getT t).1, k + (getT t).2, 0) else (blank0, 0, 4)
def getV (s : ByteArray) (k : Int) : Vl × Int × Int :=
  if k < 0 ∨ (s.size : Int) < k then (blank0, 0, 3) else getR (s.extract k.toNat s.size) k
def GetPost (r : Vl × Int × Int) (w : World) (e : Ending) (w' : World) : Prop :=
  e = .returned (.tuple #[.agg r.1.cells, .int .i64 r.2.1, .int .i64 r.2.2]) ∧ Below w.heap.size w w'

end Go.Proofs.YteaodfeaidjcnaaDoor
