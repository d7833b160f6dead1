/- The contracts of the program's has, isLiteral, isCalled. -/
import Derived.Test.YtloamahbghjjgaaGreatDoorPbD
import Derived.Test.YtloamahbghjjgaaGreatDoorVpB
import Derived.Test.YtloamahbghjjgaaGreatDoorVpE
import Derived.Test.YtloamahbghjjgaaGreatDoorAdV
namespace Go.Proofs.YtloamahbghjjgaaGreatDoor
open Go.RowKit

def rEq (a b : Rf) : Bool := (a.col == b.col && a.row == b.row) && (a.fc == b.fc && a.fr == b.fr)
def fEq (a b : Fl) : Bool := (a.book.toList == b.book.toList) && ((a.sheet.toList == b.sheet.toList) && (rEq a.a b.a && (rEq a.b b.b && (a.wide == b.wide))))
set_option maxHeartbeats 1000000 in
theorem full_eq (a b : Fl) (w : World) : (binOp .eql 52 (.agg a.cells) (.agg b.cells)).run Tryz.prog w = .ok (.bool (fEq a b)) w := by
  obtain ⟨bk, sh, ⟨c1, r1, f1, g1⟩, ⟨c2, r2, f2, g2⟩, wd⟩ := a
  obtain ⟨bk', sh', ⟨c1', r1', f1', g1'⟩, ⟨c2', r2', f2', g2'⟩, wd'⟩ := b
  have hS : Tryz.prog.underlying 52 = some (.struct (Tryz.prog.fieldsOf 52)) := by kernel_rfl
  have hp : Tryz.prog.stoodInHeld 52 = false := by kernel_rfl
  have hc : ∀ c r f g c' r' f' g' w, (Op.equalIn 9999 50 (.agg #[.int .i64 c, .int .i64 r, .bool f, .bool g]) (.agg #[.int .i64 c', .int .i64 r', .bool f', .bool g'])).run Tryz.prog w = .ok ((c == c' && r == r') && ((f == f') && (g == g'))) w := fun c r f g c' r' f' g' w =>
    rf_eqIn 9996 c r f g c' r' f' g' w
  have u2 := Tryz.underlying4
  have a2 := Tryz.isAgg4
  have z2 := Tryz.sizeOf4
  have u4 := Tryz.underlying9
  have a4 := Tryz.isAgg9
  have z4 := Tryz.sizeOf9
  have a3 := Tryz.isAgg50
  have z3 := Tryz.sizeOf50
  rw [run_eql_struct, show (10000 : Nat) = 9999 + 1 from rfl, run_equalIn_agg w 9999 52 _ _ hS hp]
  simp only [Program.fieldsOf, Tryz.underlying52]
  clear hS
  unfold Fl.cells fEq rEq
  simp only []
  cases h1 : (bk.toList == bk'.toList)
  · go_simp
  cases h2 : (sh.toList == sh'.toList)
  · go_simp
  cases h3 : ((c1 == c1' && r1 == r1') && ((f1 == f1') && (g1 == g1')))
  · go_simp
  cases h4 : ((c2 == c2' && r2 == r2') && ((f2 == f2') && (g2 == g2')))
  · go_simp
  · go_simp
    clear hc
    cases wd <;> cases wd' <;> rfl
def hasB (n : Nd) (op : ByteArray) (v : Vl) (f : Fl) : Bool := (n.op.toList == op.toList) && (vEq n.val v && fEq n.ref f)
set_option maxRecDepth 100000 in
set_option maxHeartbeats 4000000 in
theorem nhas_val (n : Nd) (kv : Value) (op : ByteArray) (v : Vl) (f : Fl) (w : World) :
    Calls Tryz.prog 117 #[.agg (n.cells kv), .string op, .agg v.cells, .agg f.cells] w fun e w' => e = .returned (.bool (hasB n op v f)) ∧ Below w.heap.size w w' := by
  have hv := hide (fun w => vl_eq n.val.kind n.val.num n.val.text n.val.tr n.val.fail v.kind v.num v.text v.tr v.fail w)
  have hf := hide (fun w => full_eq n.ref f w)
  obtain ⟨kd, nop, ⟨v1, v2, v3, v4, v5⟩, ⟨bk, sh, ⟨c1, r1, f1, g1⟩, ⟨c2, r2, f2, g2⟩, wd⟩, ks⟩ := n
  obtain ⟨V1, V2, V3, V4, V5⟩ := v
  obtain ⟨bk', sh', ⟨c1', r1', f1', g1'⟩, ⟨c2', r2', f2', g2'⟩, wd'⟩ := f
  unfold hasB
  obtain ⟨b2, hb2⟩ : ∃ b, vEq ⟨v1, v2, v3, v4, v5⟩ ⟨V1, V2, V3, V4, V5⟩ = b := ⟨_, rfl⟩
  obtain ⟨b3, hb3⟩ : ∃ b, fEq ⟨bk, sh, ⟨c1, r1, f1, g1⟩, ⟨c2, r2, f2, g2⟩, wd⟩ ⟨bk', sh', ⟨c1', r1', f1', g1'⟩, ⟨c2', r2', f2', g2'⟩, wd'⟩ = b := ⟨_, rfl⟩
  simp only [] at hv hf ⊢
  rw [hb2] at hv ⊢
  rw [hb3] at hf ⊢
  clear hb2 hb3
  unfold Nd.cells Vl.cells Fl.cells
  unfold Fl.cells at hf
  simp only [] at hf ⊢
  have hv2 := unhide hv
  have hf2 := unhide hf
  cases h1 : (nop.toList == op.toList)
  · go_enter Tryz.func117, Tryz.ntmps117
    go_wp2
    go_ret
    exact ⟨rfl, (below_al3 _ _ _ _)⟩
  cases b2
  · go_enter Tryz.func117, Tryz.ntmps117
    go_wp2
    go_ret
    exact ⟨rfl, (below_al3 _ _ _ _)⟩
  · go_enter Tryz.func117, Tryz.ntmps117
    go_wp2
    go_ret
    exact ⟨rfl, (below_al3 _ _ _ _)⟩
end Go.Proofs.YtloamahbghjjgaaGreatDoor
