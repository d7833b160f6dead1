/- The contracts of slices.Index and slices.Contains at rows of references. -/
import Derived.Test.YtloamahbghjjgaaGreatDoorPcK
import Derived.Test.YtloamahbghjjgaaGreatDoorPcA
import Derived.Deep.QuietTactic
import Derived.BigQuiet
namespace Go.Proofs.YtloamahbghjjgaaGreatDoor
open Go.RowKit

abbrev fuT : TypeId := 52
/-- References where a slice lies. -/
def FullsIn (w : World) (a : Option Addr) (fs : List Fl) : Prop :=
  fs = [] ∨ ∃ g off, a = some ⟨g, off, none⟩ ∧ g < w.heap.size ∧ ∀ (i : Nat) (f : Fl), fs[i]? = some f → ∀ (j : Nat) (u : Value), f.cells[j]? = some u → w.cell? ⟨g, off + i * 11 + j, none⟩ = some u
theorem fulls_below {w w' : World} {a : Option Addr} {fs : List Fl} (h : FullsIn w a fs) (hb : Below w.heap.size w w') : FullsIn w' a fs := by
  rcases h with h | ⟨g, off, rfl, hg, hc⟩
  · exact Or.inl h
  · exact Or.inr ⟨g, off, rfl, Nat.lt_of_lt_of_le hg hb.size, fun i k hi j u hu => by rw [hb.cell (p := ⟨g, off + i * 11 + j, none⟩) hg]; exact hc i k hi j u hu⟩
theorem fulls_at {w : World} {a : Option Addr} {fs : List Fl} (h : FullsIn w a fs) (i : Nat) (f : Fl) (hi : fs[i]? = some f) : ∃ g off, a = some ⟨g, off, none⟩ ∧ g < w.heap.size ∧
    (w.cell? ⟨g, off + i * 11, none⟩ = some (.string f.book) ∧ w.cell? ⟨g, off + i * 11 + 1, none⟩ = some (.string f.sheet) ∧ w.cell? ⟨g, off + i * 11 + 2, none⟩ = some (.int .i64 f.a.col) ∧ w.cell? ⟨g, off + i * 11 + 3, none⟩ = some (.int .i64 f.a.row) ∧ w.cell? ⟨g, off + i * 11 + 4, none⟩ = some (.bool f.a.fc) ∧ w.cell? ⟨g, off + i * 11 + 5, none⟩ = some (.bool f.a.fr) ∧ w.cell? ⟨g, off + i * 11 + 6, none⟩ = some (.int .i64 f.b.col) ∧ w.cell? ⟨g, off + i * 11 + 7, none⟩ = some (.int .i64 f.b.row) ∧ w.cell? ⟨g, off + i * 11 + 8, none⟩ = some (.bool f.b.fc) ∧ w.cell? ⟨g, off + i * 11 + 9, none⟩ = some (.bool f.b.fr) ∧ w.cell? ⟨g, off + i * 11 + 10, none⟩ = some (.bool f.wide)) := by
  rcases h with h | ⟨g, off, rfl, hg, hc⟩
  · rw [h] at hi; simp at hi
  · have h := fun j u => hc i f hi j u
    exact ⟨g, off, rfl, hg, h 0 _ rfl, h 1 _ rfl, h 2 _ rfl, h 3 _ rfl, h 4 _ rfl, h 5 _ rfl, h 6 _ rfl, h 7 _ rfl, h 8 _ rfl, h 9 _ rfl, h 10 _ rfl⟩
def hasF (fs : List Fl) (x : Fl) : Bool := fs.any fun f => fEq x f
theorem cells11x {w : World} {B : Nat} {t : TypeId} {v0 v1 v2 v3 v4 v5 v6 v7 v8 v9 v10 : Value} (h : CellsAt w B t #[v0, v1, v2, v3, v4, v5, v6, v7, v8, v9, v10]) :
    w.cell? ⟨B, 0, none⟩ = some v0 ∧ w.cell? ⟨B, 1, none⟩ = some v1 ∧ w.cell? ⟨B, 2, none⟩ = some v2 ∧ w.cell? ⟨B, 3, none⟩ = some v3 ∧ w.cell? ⟨B, 4, none⟩ = some v4 ∧ w.cell? ⟨B, 5, none⟩ = some v5 ∧ w.cell? ⟨B, 6, none⟩ = some v6 ∧ w.cell? ⟨B, 7, none⟩ = some v7 ∧ w.cell? ⟨B, 8, none⟩ = some v8 ∧ w.cell? ⟨B, 9, none⟩ = some v9 ∧ w.cell? ⟨B, 10, none⟩ = some v10 :=
  ⟨cells_c h 0 _ rfl, cells_c h 1 _ rfl, cells_c h 2 _ rfl, cells_c h 3 _ rfl, cells_c h 4 _ rfl, cells_c h 5 _ rfl, cells_c h 6 _ rfl, cells_c h 7 _ rfl, cells_c h 8 _ rfl, cells_c h 9 _ rfl, cells_c h 10 _ rfl⟩
theorem below_same3 {w w1 w2 : World} (h : Below w.heap.size w w1) (h2 : w2.heap = w1.heap) (h3 : w2.os = w1.os) (h4 : w2.tape = w1.tape) (h5 : w2.output = w1.output) : Below w.heap.size w w2 :=
  below_nx h ⟨h3, h4, h5, by rw [h2]; exact Nat.le_refl _, fun k _ => by rw [h2]⟩
set_option maxRecDepth 100000 in
set_option maxHeartbeats 4000000 in
theorem findex_val (a : Option Addr) (cap : Nat) (fs : List Fl) (x : Fl) (w : World) (ha : FullsIn w a fs) (hx : fs.length ≤ 100000) :
    Calls Tryz.prog 159 #[.slice a fs.length cap, .agg x.cells] w fun e w' => (∃ v : Int, e = .returned (.int .i64 v) ∧ decide (0 ≤ v) = hasF fs x) ∧ Below w.heap.size w w' := by
  have HA := hide ha
  clear ha
  obtain ⟨n, hn⟩ : ∃ n, fs.length = n := ⟨_, rfl⟩
  have HN := hide hn
  rw [hn] at hx ⊢
  clear hn
  obtain ⟨bq, hbq⟩ : ∃ bq, hasF fs x = bq := ⟨_, rfl⟩
  have HQ := hide hbq
  rw [hbq]
  clear hbq
  have HEQ := hide (fun f w => full_eq x f w)
  have HXX := hide (rfl : fs.any (fun f => fEq x f) = hasF fs x)
  obtain ⟨X, hX⟩ : ∃ X, x = X := ⟨_, rfl⟩
  have HX := hide hX
  clear hX
  obtain ⟨bk, sh, ⟨c1, r1, f1, g1⟩, ⟨c2, r2, f2, g2⟩, wd⟩ := x
  unfold Fl.cells at HEQ ⊢
  simp only [] at HEQ ⊢
  have HBA := hide (below_al w (.cells #[.string bk, .string sh, .int .i64 c1, .int .i64 r1, .bool f1, .bool g1, .int .i64 c2, .int .i64 r2, .bool f2, .bool g2, .bool wd] fuT))
  have HCN := hide (cells_new w fuT #[.string bk, .string sh, .int .i64 c1, .int .i64 r1, .bool f1, .bool g1, .int .i64 c2, .int .i64 r2, .bool f2, .bool g2, .bool wd])
  go_enter Tryz.func159, Tryz.ntmps159
  go_wp2_with fail
  go_loopw [8] (fun v wr => ∃ k : Nat, v = .int .i64 (k : Int) ∧ k ≤ n ∧ Hid (hasF (fs.take k) X = false) ∧ Hid (CellsAt wr w.heap.size fuT #[.string bk, .string sh, .int .i64 c1, .int .i64 r1, .bool f1, .bool g1, .int .i64 c2, .int .i64 r2, .bool f2, .bool g2, .bool wd]) ∧ Hid (Below w.heap.size w wr)) (fun v _ => n - (intOf v).toNat)
  case atStart => exact ⟨0, rfl, by omega, hide rfl, HCN, HBA⟩
  case round =>
    obtain ⟨k, rfl, hk, HT, HC, HBW⟩ := hrel
    by_cases hlt : k < n
    · have hlti : (k : Int) < (n : Int) := by omega
      obtain ⟨s, hs⟩ : ∃ s, fs[k]? = some s := ⟨_, List.getElem?_eq_getElem (by rw [unhide HN]; exact hlt)⟩
      have HS := hide hs
      obtain ⟨gg, o1, rfl, _, y0, y1, y2, y3, y4, y5, y6, y7, y8, y9, y10⟩ := fulls_at (fulls_below (unhide HA) (unhide HBW)) k s hs
      obtain ⟨x0, x1, x2, x3, x4, x5, x6, x7, x8, x9, x10⟩ := cells11x (unhide HC)
      clear hs
      obtain ⟨b, hb⟩ : ∃ b, fEq X s = b := ⟨_, rfl⟩
      have HQ2 : ∀ w, (binOp .eql fuT (.agg #[.string bk, .string sh, .int .i64 c1, .int .i64 r1, .bool f1, .bool g1, .int .i64 c2, .int .i64 r2, .bool f2, .bool g2, .bool wd]) (.agg #[.string s.book, .string s.sheet, .int .i64 s.a.col, .int .i64 s.a.row, .bool s.a.fc, .bool s.a.fr, .int .i64 s.b.col, .int .i64 s.b.row, .bool s.b.fc, .bool s.b.fr, .bool s.wide])).run Tryz.prog w = .ok (.bool b) w := fun w => by
        rw [← hb, ← unhide HX]
        exact unhide HEQ s w
      have HBB := hide hb
      clear hb
      cases b with
      | true =>
        have HD : Hid (bq = true) := hide (by
          rw [← unhide HQ, unhide HX]
          unfold hasF
          rw [List.any_eq_true]
          exact ⟨s, List.mem_of_getElem? (unhide HS), unhide HBB⟩)
        go_upto_region 4 with fail
        go_quiet (fail)
        go_wp2
        go_ret
        exact ⟨⟨_, rfl, by rw [unhide HD]; exact decide_eq_true (by omega)⟩, below_same3 (unhide HBW) rfl rfl rfl rfl⟩
      | false =>
        have HT2 : Hid (hasF (fs.take (k + 1)) X = false) := hide (by
          have h1 := unhide HT
          unfold hasF at h1 ⊢
          rw [List.take_add_one, unhide HS, List.any_append, h1]
          simp [unhide HBB])
        go_upto_region 4 with fail
        go_quiet (fail)
        go_wp2
        go_roundw
        case rel => exact ⟨k + 1, by go_num, by omega, HT2, hide (unhide HC), hide (below_same3 (unhide HBW) rfl rfl rfl rfl)⟩
        case measure => simp [intOf]; omega
    · have hlti : ¬ (k : Int) < (n : Int) := by omega
      have HD : Hid (bq = false) := hide (by
        rw [← unhide HQ, unhide HX]
        have h1 := unhide HT
        rw [List.take_of_length_le (by rw [unhide HN]; omega)] at h1
        exact h1)
      go_wp2
      go_ret
      exact ⟨⟨_, rfl, by rw [unhide HD]; exact decide_eq_false (by omega)⟩, unhide HBW⟩
set_option maxRecDepth 100000 in
set_option maxHeartbeats 2000000 in
theorem fcontains_val (a : Option Addr) (cap : Nat) (fs : List Fl) (x : Fl) (w : World) (ha : FullsIn w a fs) (hx : fs.length ≤ 100000) :
    Calls Tryz.prog 109 #[.slice a fs.length cap, .agg x.cells] w fun e w' => e = .returned (.bool (hasF fs x)) ∧ Below w.heap.size w w' := by
  have HS := hide (fun w2 (h : FullsIn w2 a fs) => findex_val a cap fs x w2 h hx)
  have HA := hide ha
  obtain ⟨n, hn⟩ : ∃ n, fs.length = n := ⟨_, rfl⟩
  rw [hn] at HS ⊢
  clear hn ha hx
  obtain ⟨bq, hbq⟩ : ∃ bq, hasF fs x = bq := ⟨_, rfl⟩
  rw [hbq] at HS ⊢
  clear hbq
  obtain ⟨bk, sh, ⟨c1, r1, f1, g1⟩, ⟨c2, r2, f2, g2⟩, wd⟩ := x
  unfold Fl.cells at HS ⊢
  simp only [] at HS ⊢
  have HBA := hide (below_al w (.cells #[.string bk, .string sh, .int .i64 c1, .int .i64 r1, .bool f1, .bool g1, .int .i64 c2, .int .i64 r2, .bool f2, .bool g2, .bool wd] fuT))
  go_enter Tryz.func109, Tryz.ntmps109
  go_wp2_with fail
  refine (unhide HS _ (fulls_below (unhide HA) (unhide HBA))).mono ?_
  rintro e w2 ⟨⟨v, rfl, hv⟩, b2⟩
  have HV := hide hv
  have HB := hide (below_nx (unhide HBA) b2)
  clear hv b2
  go_wp2
  go_ret
  exact ⟨by rw [← unhide HV]; rfl, unhide HB⟩
end Go.Proofs.YtloamahbghjjgaaGreatDoor
