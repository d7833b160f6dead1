/- The contract of the reference's Text. -/
import Derived.Test.YteaodfeaidjcnaaDoorRfX
import Derived.Test.YteaodfeaidjcnaaDoorRfZ
import Derived.BigRegion
import Derived.Deep.CutRange
import Derived.Deep.CutBlock
namespace Go.Proofs.YteaodfeaidjcnaaDoor
open Go.RowKit

def sliceLen : Value → Nat
  | .slice _ n _ => n
  | _ => 0

/-- A row of digits that is being filled up. -/
structure PadIn (zs : List Int) (p : Nat) : Prop where
  dig : Dc.Dig zs
  val : Dc.val zs = (p : Int)
  top : zs.length ≤ 5 ∨ Dc.Cn zs
  hi : zs.length ≤ 19
theorem pad_step {zs : List Int} {p : Nat} (h : PadIn zs p) (hl : zs.length < 5) : PadIn (zs ++ [0]) p :=
  ⟨dig_snoc h.dig (by omega) (by omega), by rw [val_snoc, h.val]; omega, Or.inl (by simp; omega), by simp; omega⟩
theorem pad_end {zs : List Int} {p : Nat} (h : PadIn zs p) (hl : 5 ≤ zs.length) : TextIn zs p :=
  ⟨h.dig, h.val, hl, by rcases h.top with h1 | h1; exact Or.inl (by omega); exact Or.inr h1, h.hi⟩
theorem owns_form {w : World} {B : Nat} {v : Value} {n : Nat} {xs : List Value} (h : w.ownsRow B 3 1 v n xs) : ∃ ad cap, v = .slice ad n cap := by
  rcases h.2 with ⟨rfl, h0⟩ | ⟨g, cap, cur, rfl, _⟩
  · exact ⟨none, 0, by rw [h0]⟩
  · exact ⟨_, cap, rfl⟩

theorem conv_one (w : World) (x : Int) (h0 : 0 ≤ x) (h9 : x ≤ 9) :
    (convert 65 9 (.slice (some ⟨w.heap.size, 0, none⟩) 1 1)).run Tryd.prog (w.alloc (.cells #[.int .u8 (48 + x)] 5)) = .ok (.string ⟨#[chr x]⟩) (w.alloc (.cells #[.int .u8 (48 + x)] 5)) := by
  have e : ((chr x).toNat : Int) = 48 + x := by
    unfold chr
    rw [UInt8.toNat_ofNat']
    omega
  exact run_convert_bytes_back (P := Tryd.prog) (w.alloc (.cells #[.int .u8 (48 + x)] 5)) 65 9 5 ⟨w.heap.size, 0, none⟩ 1 [chr x] Tryd.underlying65 Tryd.underlying5 Tryd.underlying9 (fun j hj => by
    have : j = 0 := by simp at hj; exact hj
    subst this
    show _ = some (Value.int .u8 ((chr x).toNat : Int))
    rw [e]
    simp [Addr.add])

theorem size_snoc (sb : ByteArray) (c : UInt8) : (sb ++ (⟨#[c]⟩ : ByteArray)).size = sb.size + 1 := by
  rw [ByteArray.size_append]; rfl
theorem list_snoc (sb : ByteArray) (c : UInt8) : (sb ++ (⟨#[c]⟩ : ByteArray)).data.toList = sb.data.toList ++ [c] := by
  rw [ByteArray.data_append, Array.toList_append]
theorem str_eq {sb : ByteArray} {l : List UInt8} (h : sb.data.toList = l) : Ending.returned (Value.string sb) = Ending.returned (Value.string ⟨l.toArray⟩) := by
  subst h; rfl

end Go.Proofs.YteaodfeaidjcnaaDoor
