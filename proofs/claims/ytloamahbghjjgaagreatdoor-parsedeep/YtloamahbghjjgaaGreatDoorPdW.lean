/- What the laws of layer 6 ask first. -/
import Derived.Test.YtloamahbghjjgaaGreatDoorPcR
import Derived.Test.YtloamahbghjjgaaGreatDoorAdU
namespace Go.Proofs.YtloamahbghjjgaaGreatDoor
open Go.RowKit
def bs (l : List UInt8) : ByteArray := ⟨l.toArray⟩
theorem bs_size (l : List UInt8) : (bs l).size = l.length := rfl
theorem bs_list (l : List UInt8) : (bs l).data.toList = l := by simp [bs]
def wk6L : List UInt8 := [49, 43, 65, 49, 42, 45, 50]
def wk6N : List Nd := [⟨0, emp, vN 10000, zeroF, []⟩, ⟨1, emp, zVl, zeroF, []⟩, ⟨0, emp, vN 20000, zeroF, []⟩, ⟨2, emp, zVl, zeroF, [2]⟩, ⟨4, ⟨#[42]⟩, zVl, zeroF, [1, 3]⟩, ⟨4, ⟨#[43]⟩, zVl, zeroF, [0, 4]⟩]
theorem wk6_parse : parseL wk6L = (wk6N, 0) := by kernel_rfl
theorem wk6_good : goodT wk6N = true := by kernel_rfl
theorem wk6_nest : nestingT wk6N = 1 := by kernel_rfl
theorem wk6_refs : refsT wk6N = [zeroF] := by kernel_rfl
theorem wk6_text : fullT zeroF = [65, 49] := by kernel_rfl
theorem wk6_fit : TreeFit wk6N := by
  refine ⟨by decide, ?_, ?_, ?_⟩
  all_goals
    intro n hn
    unfold wk6N at hn
    simp only [List.mem_cons, List.not_mem_nil, or_false] at hn
    rcases hn with rfl | rfl | rfl | rfl | rfl | rfl <;> decide
set_option maxRecDepth 100000 in
set_option maxHeartbeats 4000000 in
theorem wakes6 (w : World) (he : Env5 w) :
    Calls Tryz.prog 14 #[] w fun e w' => e = .returned (.bool true) ∧ Below w.heap.size w w' := by
  have HE := hide he
  have HP := hide (parse_val (bs wk6L) w (by decide) he)
  rw [bs_list, wk6_parse] at HP
  unfold PaPost at HP
  simp only [] at HP
  rw [show bs wk6L = (⟨#[49, 43, 65, 49, 42, 45, 50]⟩ : ByteArray) from rfl] at HP
  clear he
  have HG := hide (fun a cap w h => goodT_val a cap wk6N w h wk6_fit)
  have HNS := hide (fun a cap w h => nestingT_val a cap wk6N w h wk6_fit)
  have HRF := hide (fun a cap w h => refsT_val a cap wk6N w h wk6_fit)
  rw [wk6_good] at HG
  rw [wk6_nest] at HNS
  rw [wk6_refs] at HRF
  have HT := hide (fun w (h : Env5 w) => fullText_val zeroF w h.e4)
  rw [wk6_text] at HT
  unfold Fl.cells zeroF at HT
  simp only [] at HT
  go_enter Tryz.func14, Tryz.ntmps14
  go_wp2_with fail
  refine (unhide HP).mono ?_
  rintro e w1 ⟨v, rfl, hrow, bb⟩
  obtain ⟨a, cap, rfl, hcp, hin⟩ := nodes_in hrow
  obtain ⟨g, off, ka3, kc3, rfl, hg, _, _, hc3⟩ := node_at hin 3 _ rfl
  obtain ⟨g', off', ka4, kc4, h4, _, hk4, hi4, hc4⟩ := node_at hin 4 _ rfl
  obtain ⟨rfl, rfl⟩ : g = g' ∧ off = off' := by simpa using h4
  obtain ⟨g', off', ka5, kc5, h5, _, _, _, hc5⟩ := node_at hin 5 _ rfl
  obtain ⟨rfl, rfl⟩ : g = g' ∧ off = off' := by simpa using h5
  have y1 : w1.cell? ⟨g, off + 57, none⟩ = some (.int .i64 2) := hc3 0 _ rfl
  have y2 : w1.cell? ⟨g, off + 77, none⟩ = some (.string ⟨#[42]⟩) := hc4 1 _ rfl
  have y3 : w1.cell? ⟨g, off + 94, none⟩ = some (.slice ka4 2 kc4) := hc4 18 _ rfl
  have y5 : w1.cell? ⟨g, off + 96, none⟩ = some (.string ⟨#[43]⟩) := hc5 1 _ rfl
  obtain ⟨gk, ok, rfl, hgk, hck⟩ : ∃ gk ok, ka4 = some ⟨gk, ok, none⟩ ∧ gk < w1.heap.size ∧ w1.cell? ⟨gk, ok + 1, none⟩ = some (.int .i64 3) := by
    rcases hi4 with h | ⟨gk, ok, rfl, hgk, hck⟩
    · cases h
    · exact ⟨gk, ok, rfl, hgk, hck 1 3 rfl⟩
  have HC := hide (fun w' (b : Below w1.heap.size w1 w') => (⟨(b.cell (p := ⟨g, off + 57, none⟩) hg).trans y1, (b.cell (p := ⟨g, off + 77, none⟩) hg).trans y2, (b.cell (p := ⟨g, off + 94, none⟩) hg).trans y3, (b.cell (p := ⟨g, off + 96, none⟩) hg).trans y5, (b.cell (p := ⟨gk, ok + 1, none⟩) hgk).trans hck⟩ :
    w'.cell? ⟨g, off + 57, none⟩ = some (.int .i64 2) ∧ w'.cell? ⟨g, off + 77, none⟩ = some (.string ⟨#[42]⟩) ∧ w'.cell? ⟨g, off + 94, none⟩ = some (.slice (some ⟨gk, ok, none⟩) 2 kc4) ∧ w'.cell? ⟨g, off + 96, none⟩ = some (.string ⟨#[43]⟩) ∧ w'.cell? ⟨gk, ok + 1, none⟩ = some (.int .i64 3)))
  have HIN := hide hin
  have HB := hide bb
  clear y1 y2 y3 y5 hck hc3 hc4 hc5 h4 h5 hin hrow bb hi4 hg hgk hcp hk4 HP
  rw [show wk6N.length = 6 from rfl] at HG HNS HRF ⊢
  go_wp2_with fail
  refine (unhide HG _ _ _ (unhide HIN)).mono ?_
  rintro e w2 ⟨rfl, b2⟩
  have B2 := hide b2
  clear b2
  go_wp2_with fail
  refine (unhide HNS _ _ _ (nodesIn_below (unhide HIN) (unhide B2))).mono ?_
  rintro e w3 ⟨rfl, b3⟩
  have B3 := hide (below_nx (unhide B2) b3)
  clear b3 B2
  go_wp2_with fail
  refine (unhide HRF _ _ _ (nodesIn_below (unhide HIN) (unhide B3))).mono ?_
  rintro e w4 ⟨⟨v, rfl, ho⟩, b4⟩
  have B4 := hide (below_nx (unhide B3) b4)
  obtain ⟨fa, fcap, rfl, hfc, hfin⟩ := fulls_of_owns ho
  obtain ⟨gf, o, rfl, hgf, z0, z1, z2, z3, z4, z5, z6, z7, z8, z9, z10⟩ := fulls_at hfin 0 zeroF rfl
  rw [Nat.zero_mul, Nat.add_zero] at z0 z1 z2 z3 z4 z5 z6 z7 z8 z9 z10
  unfold zeroF at z0 z1 z2 z3 z4 z5 z6 z7 z8 z9 z10
  simp only [] at z0 z1 z2 z3 z4 z5 z6 z7 z8 z9 z10
  obtain ⟨x1, x2, x3, x5, x4⟩ := unhide HC _ (unhide B4)
  have BX := hide (below_nx (unhide HB) (unhide B4))
  clear ho hfin hgf b4 B3 HC HIN hfc
  rw [show ([zeroF] : List Fl).length = 1 from rfl]
  go_wp2_with fail
  refine (unhide HT _ ((unhide HE).below (unhide BX))).mono ?_
  rintro e w5 ⟨rfl, b5⟩
  have B5 := hide (below_nx (unhide BX) b5)
  clear b5
  go_wp2
  go_ret
  exact ⟨rfl, unhide B5⟩
end Go.Proofs.YtloamahbghjjgaaGreatDoor
