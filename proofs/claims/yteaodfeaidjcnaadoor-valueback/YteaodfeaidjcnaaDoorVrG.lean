/- The contracts of the reference's Show, of layer 3. -/
import Derived.Test.YteaodfeaidjcnaaDoorVrF
import Derived.Test.YteaodfeaidjcnaaDoorRfT
namespace Go.Proofs.YteaodfeaidjcnaaDoor
open Go.RowKit

def showV (u : Vl) : ByteArray :=
  if u.kind = 1 then ⟨(textL u.num).toArray⟩ else if u.kind = 2 then u.text else if u.kind = 3 then (if u.tr = true then ⟨#[84, 82, 85, 69]⟩ else ⟨#[70, 65, 76, 83, 69]⟩) else if u.kind = 4 then signV u.fail else noText
theorem sound_size (v : Vl) (h : v.text.size ≤ 1000000) : (vSound v).text.size ≤ 1000000 := by
  unfold vSound
  split
  · exact h
  · show noText.size ≤ 1000000; decide

end Go.Proofs.YteaodfeaidjcnaaDoor
