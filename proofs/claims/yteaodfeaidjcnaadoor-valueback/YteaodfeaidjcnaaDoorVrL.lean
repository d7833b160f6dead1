/- The contract of the reference's Read, of layer 3. -/
import Derived.Test.YteaodfeaidjcnaaDoorVrK
namespace Go.Proofs.YteaodfeaidjcnaaDoor
open Go.RowKit

/-- What a text is that is no number and no truth: the last k signs are still to be tried. -/
def rsV (s : ByteArray) : Nat → Vl
  | 0 => vT s
  | k + 1 => if ((signV (8 - k)).toList == s.toList) = true then vE (8 - k) else rsV s k
def readV (s : ByteArray) : Vl :=
  if (s.toList == []) = true then ⟨0, 0, noText, false, 0⟩ else if ((parseR s.data.toList).2 == 0) = true then vN (parseR s.data.toList).1
    else if ((mapB lowC s).toList == [116, 114, 117, 101]) = true then vB true else if ((mapB lowC s).toList == [102, 97, 108, 115, 101]) = true then vB false else rsV s 8

end Go.Proofs.YteaodfeaidjcnaaDoor
