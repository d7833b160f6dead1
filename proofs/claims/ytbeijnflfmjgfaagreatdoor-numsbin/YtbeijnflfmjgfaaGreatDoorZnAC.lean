/- The contract of the reference's plus. -/
import Derived.BigQuiet
import Derived.BigRegion
import Derived.Deep.CutBlock
import Derived.Deep.CutRange
import Derived.Deep.QuietTactic
import Derived.Test.YtbeijnflfmjgfaaGreatDoorRows
import Derived.WalkKit
import Derived.WalkLawsBesides
import Derived.WalkSmall
import Derived.WalkSpells
import Derived.Test.YtbeijnflfmjgfaaGreatDoorZnAA
import Derived.Test.YtbeijnflfmjgfaaGreatDoorZnAB
namespace Go.Proofs.YtbeijnflfmjgfaaGreatDoor
open Go.RowKit

theorem arr_open {w : World} {v : Value} {zs : List Int} (h : Arr w v zs) : ∃ ad cap, v = .slice ad zs.length cap ∧
    (0 < zs.length → ∃ b o, ad = some ⟨b, o, none⟩ ∧ b < w.heap.size ∧ ∀ i, i < zs.length → w.cell? ⟨b, o + i, none⟩ = some (.int .i64 (zs.getD i 0))) := by
  rcases h with ⟨rfl, ad, cap, rfl⟩ | ⟨b, o, cap, rfl, _, hlt, hc⟩
  · exact ⟨ad, cap, rfl, fun h => by simp at h⟩
  · exact ⟨_, cap, rfl, fun _ => ⟨b, o, rfl, hlt, hc⟩⟩

theorem owns_cell {w : World} {B g n : Nat} {os : List Int} (h : w.ownsRow B 3 1 (.slice (some ⟨g, 0, none⟩) n n) n (os.map (Value.int .i64))) (j : Nat) (hj : j < n) : w.cell? ⟨g, j, none⟩ = some (.int .i64 (os.getD j 0)) := by
  have hl : os.length = n := by have := h.1; simpa using this
  rw [h.cellAt j (by omega), List.getElem?_map, List.getElem?_eq_getElem (by omega), List.getD_eq_getElem?_getD, List.getElem?_eq_getElem (by omega)]
  rfl
theorem owns_set {w : World} {B g n : Nat} {os : List Int} (h : w.ownsRow B 3 1 (.slice (some ⟨g, 0, none⟩) n n) n (os.map (Value.int .i64))) (j : Nat) (x : Int) :
    (w.setCell ⟨g, j, none⟩ (.int .i64 x)).ownsRow B 3 1 (.slice (some ⟨g, 0, none⟩) n n) n ((os.set j x).map (Value.int .i64)) := by
  have := h.stored j (.int .i64 x)
  rw [List.map_set]
  exact this.1

structure PlusInv (xs ys os : List Int) (n k : Nat) : Prop where
  len : os.length = n + 1
  low : ∀ j, j < k → 0 ≤ os.getD j 0 ∧ os.getD j 0 ≤ 9
  mid : 0 ≤ os.getD k 0 ∧ os.getD k 0 ≤ 1
  high : ∀ j, k < j → os.getD j 0 = 0
  sum : Dc.val os = Dc.val (xs.take k) + Dc.val (ys.take k)

theorem plus_step (xs ys os : List Int) (n k : Nat) (hk : k < n) (dx : Dc.Dig xs) (dy : Dc.Dig ys) (h : PlusInv xs ys os n k) :
    (os.getD k 0 + xs.getD k 0 + ys.getD k 0 < 10 → PlusInv xs ys (os.set k (os.getD k 0 + xs.getD k 0 + ys.getD k 0)) n (k + 1)) ∧
    (10 ≤ os.getD k 0 + xs.getD k 0 + ys.getD k 0 → PlusInv xs ys ((os.set k (os.getD k 0 + xs.getD k 0 + ys.getD k 0 - 10)).set (k + 1) 1) n (k + 1)) := by
  obtain ⟨h1, h2, h3, h4, h5⟩ := h
  have a1 := dx.getD k
  have a2 := dy.getD k
  have e0 := h4 (k + 1) (by omega)
  constructor
  · intro hs
    refine ⟨by simpa using h1, fun j hj => ?_, ?_, fun j hj => ?_, ?_⟩
    · rw [Dc.getD_set _ _ _ _ (by omega)]
      split
      · omega
      · exact h2 j (by omega)
    · rw [Dc.getD_set _ _ _ _ (by omega), if_neg (by omega), e0]; omega
    · rw [Dc.getD_set _ _ _ _ (by omega), if_neg (by omega)]; exact h4 j (by omega)
    · rw [Dc.val_set _ _ _ (by omega), Dc.val_take_succ, Dc.val_take_succ, h5]
      have : (10 : Int) ^ k * (os.getD k 0 + xs.getD k 0 + ys.getD k 0 - os.getD k 0) = 10 ^ k * xs.getD k 0 + 10 ^ k * ys.getD k 0 := by
        rw [← Int.mul_add]; congr 1; omega
      rw [this]; omega
  · intro hs
    refine ⟨by simpa using h1, fun j hj => ?_, ?_, fun j hj => ?_, ?_⟩
    · rw [Dc.getD_set _ _ _ _ (by simp; omega), if_neg (by omega), Dc.getD_set _ _ _ _ (by omega)]
      split
      · omega
      · exact h2 j (by omega)
    · rw [Dc.getD_set _ _ _ _ (by simp; omega), if_pos rfl]; omega
    · rw [Dc.getD_set _ _ _ _ (by simp; omega), if_neg (by omega), Dc.getD_set _ _ _ _ (by omega), if_neg (by omega)]; exact h4 j (by omega)
    · rw [Dc.val_set _ _ _ (by simp; omega), Dc.getD_set _ _ _ _ (by omega), if_neg (by omega), e0, Dc.val_set _ _ _ (by omega), Dc.val_take_succ, Dc.val_take_succ, h5, Int.pow_succ]
      have : (10 : Int) ^ k * (os.getD k 0 + xs.getD k 0 + ys.getD k 0 - 10 - os.getD k 0) + 10 ^ k * 10 * (1 - 0) = 10 ^ k * xs.getD k 0 + 10 ^ k * ys.getD k 0 := by
        rw [Int.mul_assoc, ← Int.mul_add, ← Int.mul_add]; congr 1; omega
      omega
theorem plus_start (xs ys : List Int) (n : Nat) : PlusInv xs ys (List.replicate (n + 1) 0) n 0 :=
  ⟨by simp, fun j hj => by omega, by rw [Dc.getD_zeros]; omega, fun j _ => Dc.getD_zeros _ j, by rw [Dc.val_zeros]; simp [Dc.val]⟩
theorem plus_end (xs ys os : List Int) (n : Nat) (h : PlusInv xs ys os n n) (hx : xs.length ≤ n) (hy : ys.length ≤ n) : Dc.Dig os ∧ Dc.val os = Dc.val xs + Dc.val ys := by
  refine ⟨Dc.dig_of_getD fun i hi => ?_, ?_⟩
  · rw [h.len] at hi
    rcases Nat.lt_or_ge i n with h1 | h1
    · exact h.low i h1
    · have : i = n := by omega
      subst this; have := h.mid; omega
  · have := h.sum
    rw [List.take_of_length_le hx, List.take_of_length_le hy] at this
    exact this

theorem trim_num {v0 : Value} {zs : List Int} {w w' : World} {e : Ending} (hd : Dc.Dig zs) (h : TrimPost v0 zs w e w') : w' = w ∧ ∃ v us, e = .returned v ∧ Arr w v us ∧ Dc.Dig us ∧ Dc.Cn us ∧ Dc.val us = Dc.val zs ∧ us.length ≤ zs.length ∧ ∀ B, Fr B v0 → Fr B v := by
  obtain ⟨rfl, v', n, rfl, hn, ha, hz, hl, hf⟩ := h
  exact ⟨rfl, v', zs.take n, rfl, ha, hd.take n, Dc.cn_cut zs n hn hl, Dc.val_cut zs n hz, by rw [List.length_take]; omega, hf⟩

theorem made_map (n : Nat) : (madeCells (Value.int .i64 0).cells (n * 1)).toList = (List.replicate n (0 : Int)).map (Value.int .i64) := by
  rw [List.map_replicate, Nat.mul_one]
  exact toList_madeCells_one (.int .i64 0) n

theorem plus_world {B n k : Nat} {w wr w2 : World} {os : List Int} {v : Int} (hO : wr.ownsRow B 3 1 (.slice (some ⟨B, 0, none⟩) (n + 1) (n + 1)) (n + 1) (os.map (Value.int .i64))) (hB : Below B w wr) (hl : k + 1 < os.length)
    (h1 : os.getD (k + 1) 0 = 0) (hw : w2 = (wr.setCell ⟨B, k, none⟩ (.int .i64 v)).drew) :
    w2.cell? ⟨B, k, none⟩ = some (.int .i64 v) ∧ w2.cell? ⟨B, k + 1, none⟩ = some (.int .i64 0) ∧ w2.frozen? ⟨B, k, none⟩ = false ∧ w2.frozen? ⟨B, k + 1, none⟩ = false ∧
      Hid (w2.ownsRow B 3 1 (.slice (some ⟨B, 0, none⟩) (n + 1) (n + 1)) (n + 1) ((os.set k v).map (Value.int .i64))) ∧ Hid (Below B w w2) := by
  have hl' : os.length = n + 1 := by have := hO.1; simpa using this
  have hO2 := (owns_set hO k v).drew
  rw [← hw] at hO2
  have c0 := owns_cell hO2 k (by omega)
  have c1 := owns_cell hO2 (k + 1) (by omega)
  rw [Dc.getD_set _ _ _ _ (by omega), if_pos rfl] at c0
  rw [Dc.getD_set _ _ _ _ (by omega), if_neg (by omega), h1] at c1
  refine ⟨c0, c1, hO2.frozenAt k, hO2.frozenAt (k + 1), hO2, ?_⟩
  rw [hw]
  exact (hB.setCell (p := ⟨B, k, none⟩) (Nat.le_refl _) _).drew

set_option maxRecDepth 100000 in
set_option maxHeartbeats 4000000 in
theorem plus_ref (va vb : Value) (xs ys : List Int) (w : World) (hx : xs.length ≤ 900) (hy : ys.length ≤ 900) (hva : Arr w va xs) (hvb : Arr w vb ys) (dx : Dc.Dig xs) (dy : Dc.Dig ys) :
    Calls Tryz.prog 82 #[va, vb] w fun e w' => NumPost (Dc.val xs + Dc.val ys) (max xs.length ys.length + 1) w e w' := by
  obtain ⟨i0, hi, hz0, hz1, hz2⟩ := info_parts info3
  obtain ⟨xa, capa, rfl, hoa⟩ := arr_open hva
  obtain ⟨xb, capb, rfl, hob⟩ := arr_open hvb
  obtain ⟨la, hla⟩ : ∃ la, xs.length = la := ⟨_, rfl⟩
  obtain ⟨lb, hlb⟩ : ∃ lb, ys.length = lb := ⟨_, rfl⟩
  rw [hla] at hx hoa ⊢
  rw [hlb] at hy hob ⊢
  have HLA := hide hla
  have HLB := hide hlb
  have HOA := hide hoa
  have HOB := hide hob
  have HDX := hide (And.intro dx dy)
  clear hva hvb hla hlb hoa hob dx dy
  obtain ⟨n, hn⟩ : ∃ n, max la lb = n := ⟨_, rfl⟩
  rw [hn]
  have hna : la ≤ n := by omega
  have hnb : lb ≤ n := by omega
  have hn9 : n ≤ 900 := by omega
  have HN := hide hn
  clear hn
  go_enter Tryz.func82, Tryz.ntmps82
  go_upto_if 13 with fail
  go_cut [5] from 14 (fun t wx => t = .int .i64 (n : Int) ∧ wx = w)
  case first =>
    by_cases hll : la < lb
    · have e : Hid (n = lb) := hide (by have := unhide HN; omega)
      go_wp2
      go_meet
      case rel => exact ⟨by rw [unhide e], rfl⟩
    · have e : Hid (n = la) := hide (by have := unhide HN; omega)
      go_wp2
      go_meet
      case rel => exact ⟨by rw [unhide e], rfl⟩
  case rest =>
    obtain ⟨rfl, rfl⟩ := hcut
    go_wp2_with (first
      | (at_make; refine wpList_make_full _ rfl _ _ 49 rfl wc.heap.size 3 i0 (.int .i64 0) 1 Tryz.underlying49 hi hz0 hz1 _ _ _ _ (n + 1) rfl rfl (by omega) (by omega) (by rw [hz2]; omega) (by unfold maxLen; omega) (Nat.le_refl _) ?_)
      | go_in)
    intro w1 hown hgrow
    have HB : Hid (Below wc.heap.size wc w1) := hide ((Below.refl _ _).grown hgrow (Nat.le_refl _) (fun k hk => by cases hk))
    have HO : Hid (w1.ownsRow wc.heap.size 3 1 (.slice (some ⟨wc.heap.size, 0, none⟩) (n + 1) (n + 1)) (n + 1) ((List.replicate (n + 1) (0 : Int)).map (Value.int .i64))) := hide (by
      have := made_map (n + 1)
      rw [Nat.mul_one] at this
      rw [← this]; exact hown)
    clear hown hgrow hi hz0 hz1 hz2
    go_wp2
    go_loopw [7] (fun t wr => ∃ (k : Nat) (os : List Int), t = .int .i64 (k : Int) ∧ k ≤ n ∧ Hid (wr.ownsRow wc.heap.size 3 1 (.slice (some ⟨wc.heap.size, 0, none⟩) (n + 1) (n + 1)) (n + 1) (os.map (Value.int .i64))) ∧ Hid (Below wc.heap.size wc wr) ∧ Hid (PlusInv xs ys os n k)) (fun t _ => n - (intOf t).toNat)
    case atStart => exact ⟨0, _, rfl, Nat.zero_le _, HO, HB, hide (plus_start xs ys n)⟩
    case round =>
      clear HO HB
      obtain ⟨k, os, rfl, hk, HO, HB, HI⟩ := hrel
      by_cases hkn : k < n
      · have c0 := owns_cell (unhide HO) k (by omega)
        have c1 := owns_cell (unhide HO) (k + 1) (by omega)
        have f0 := (unhide HO).frozenAt k
        have f1 := (unhide HO).frozenAt (k + 1)
        have e1 : os.getD (k + 1) 0 = 0 := (unhide HI).high (k + 1) (by omega)
        have m0 := (unhide HI).mid
        have sx := (unhide HDX).1.getD k
        have sy := (unhide HDX).2.getD k
        have PS := plus_step xs ys os n k hkn (unhide HDX).1 (unhide HDX).2 (unhide HI)
        have z1 := (unhide HB).size
        rw [e1] at c1
        obtain ⟨p, hp⟩ : ∃ p, os.getD k 0 = p := ⟨_, rfl⟩
        obtain ⟨x, hx0⟩ : ∃ x, xs.getD k 0 = x := ⟨_, rfl⟩
        obtain ⟨y, hy0⟩ : ∃ y, ys.getD k 0 = y := ⟨_, rfl⟩
        rw [hp] at c0 m0 PS
        rw [hx0] at sx PS
        rw [hy0] at sy PS
        have HP := hide hp
        have HX := hide hx0
        have HY := hide hy0
        have PS := hide PS
        have HE1 := hide e1
        clear hp hx0 hy0 e1
        obtain ⟨m1, m2⟩ := m0
        obtain ⟨x1, x2⟩ := sx
        obtain ⟨y1, y2⟩ := sy
        have hlen : k < os.length := by rw [(unhide HI).len]; omega
        have hlen1 : k + 1 < os.length := by rw [(unhide HI).len]; omega
        by_cases hka : k < la
        · obtain ⟨ba, oa, rfl, ba1, ca⟩ := unhide HOA (by omega)
          have ca := ca k hka
          rw [unhide HX, ← (unhide HB).cell (p := ⟨ba, oa + k, none⟩) ba1] at ca
          go_wp2
          go_region
          obtain ⟨w2, ew2⟩ : ∃ w2, (wr.setCell ⟨wc.heap.size, k, none⟩ (.int .i64 (p + x))).drew = w2 := ⟨_, rfl⟩
          rw [ew2]
          obtain ⟨c0', c1', f0', f1', HO', HB'⟩ := plus_world (unhide HO) (unhide HB) hlen1 (unhide HE1) ew2.symm
          clear c0 c1 f0 f1 ew2 ca
          by_cases hkb : k < lb
          · obtain ⟨bb, ob, rfl, bb1, cb⟩ := unhide HOB (by omega)
            have cb := cb k hkb
            rw [unhide HY, ← (unhide HB').cell (p := ⟨bb, ob + k, none⟩) bb1] at cb
            go_wp2
            go_region
            obtain ⟨w3, ew3⟩ : ∃ w3, (w2.setCell ⟨wc.heap.size, k, none⟩ (.int .i64 (p + x + y))).drew = w3 := ⟨_, rfl⟩
            rw [ew3]
            obtain ⟨c0, c1, f0, f1, HO3, HB3⟩ := plus_world (unhide HO') (unhide HB') (by simpa using hlen1) (by rw [Dc.getD_set _ _ _ _ hlen, if_neg (by omega)]; exact unhide HE1) ew3.symm
            rw [List.set_set] at HO3
            clear c0' c1' f0' f1' ew3 cb
            by_cases hs : p + x + y < 10
            · have PD : Hid (PlusInv xs ys (os.set k (p + x + y)) n (k + 1)) := hide (by skip; exact (unhide PS).1 (by omega))
              go_wp2
              go_roundw
              case rel => exact ⟨k + 1, os.set k (p + x + y), by go_num, by omega, HO3, HB3, PD⟩
              case measure => simp [intOf]; omega
            · have PD : Hid (PlusInv xs ys ((os.set k (p + x + y - 10)).set (k + 1) 1) n (k + 1)) := hide (by skip; exact (unhide PS).2 (by omega))
              have HO4 : Hid (((w3.setCell ⟨wc.heap.size, k, none⟩ (.int .i64 (p + x + y - 10))).setCell ⟨wc.heap.size, k + 1, none⟩ (.int .i64 1)).ownsRow wc.heap.size 3 1 (.slice (some ⟨wc.heap.size, 0, none⟩) (n + 1) (n + 1)) (n + 1) (((os.set k (p + x + y - 10)).set (k + 1) 1).map (Value.int .i64))) := hide (by
                have := owns_set (owns_set (unhide HO3) k (p + x + y - 10)) (k + 1) 1
                rw [List.set_set] at this
                exact this)
              have HB4 := hide (((unhide HB3).setCell (p := ⟨wc.heap.size, k, none⟩) (Nat.le_refl _) (.int .i64 (p + x + y - 10))).setCell (p := ⟨wc.heap.size, k + 1, none⟩) (Nat.le_refl _) (.int .i64 1))
              go_wp2
              go_roundw
              case rel => exact ⟨k + 1, _, by go_num, by omega, HO4, HB4, PD⟩
              case measure => simp [intOf]; omega
          · have hy0 : y = 0 := by rw [← unhide HY, List.getD_eq_getElem?_getD, List.getElem?_eq_none (by have := unhide HLB; omega)]; rfl
            have ev : p + x + y = p + x := by omega
            have EV := hide ev
            clear ev hy0
            by_cases hs : p + x < 10
            · have PD : Hid (PlusInv xs ys (os.set k (p + x)) n (k + 1)) := hide (by rw [← unhide EV]; exact (unhide PS).1 (by have := unhide EV; omega))
              go_wp2
              go_roundw
              case rel => exact ⟨k + 1, os.set k (p + x), by go_num, by omega, HO', HB', PD⟩
              case measure => simp [intOf]; omega
            · have PD : Hid (PlusInv xs ys ((os.set k (p + x - 10)).set (k + 1) 1) n (k + 1)) := hide (by rw [← unhide EV]; exact (unhide PS).2 (by have := unhide EV; omega))
              have HO4 : Hid (((w2.setCell ⟨wc.heap.size, k, none⟩ (.int .i64 (p + x - 10))).setCell ⟨wc.heap.size, k + 1, none⟩ (.int .i64 1)).ownsRow wc.heap.size 3 1 (.slice (some ⟨wc.heap.size, 0, none⟩) (n + 1) (n + 1)) (n + 1) (((os.set k (p + x - 10)).set (k + 1) 1).map (Value.int .i64))) := hide (by
                have := owns_set (owns_set (unhide HO') k (p + x - 10)) (k + 1) 1
                rw [List.set_set] at this
                exact this)
              have HB4 := hide (((unhide HB').setCell (p := ⟨wc.heap.size, k, none⟩) (Nat.le_refl _) (.int .i64 (p + x - 10))).setCell (p := ⟨wc.heap.size, k + 1, none⟩) (Nat.le_refl _) (.int .i64 1))
              go_wp2
              go_roundw
              case rel => exact ⟨k + 1, _, by go_num, by omega, HO4, HB4, PD⟩
              case measure => simp [intOf]; omega
        · have hx0 : x = 0 := by rw [← unhide HX, List.getD_eq_getElem?_getD, List.getElem?_eq_none (by have := unhide HLA; omega)]; rfl
          have hkb : k < lb := by have := unhide HN; omega
          have ev : p + x + y = p + y := by omega
          have EV := hide ev
          clear ev hx0
          obtain ⟨bb, ob, rfl, bb1, cb⟩ := unhide HOB (by omega)
          have cb := cb k hkb
          rw [unhide HY, ← (unhide HB).cell (p := ⟨bb, ob + k, none⟩) bb1] at cb
          go_wp2
          go_region
          obtain ⟨w3, ew3⟩ : ∃ w3, (wr.setCell ⟨wc.heap.size, k, none⟩ (.int .i64 (p + y))).drew = w3 := ⟨_, rfl⟩
          rw [ew3]
          obtain ⟨c0', c1', f0', f1', HO3, HB3⟩ := plus_world (unhide HO) (unhide HB) hlen1 (unhide HE1) ew3.symm
          clear c0 c1 f0 f1 ew3 cb
          by_cases hs : p + y < 10
          · have PD : Hid (PlusInv xs ys (os.set k (p + y)) n (k + 1)) := hide (by rw [← unhide EV]; exact (unhide PS).1 (by have := unhide EV; omega))
            go_wp2
            go_roundw
            case rel => exact ⟨k + 1, os.set k (p + y), by go_num, by omega, HO3, HB3, PD⟩
            case measure => simp [intOf]; omega
          · have PD : Hid (PlusInv xs ys ((os.set k (p + y - 10)).set (k + 1) 1) n (k + 1)) := hide (by rw [← unhide EV]; exact (unhide PS).2 (by have := unhide EV; omega))
            have HO4 : Hid (((w3.setCell ⟨wc.heap.size, k, none⟩ (.int .i64 (p + y - 10))).setCell ⟨wc.heap.size, k + 1, none⟩ (.int .i64 1)).ownsRow wc.heap.size 3 1 (.slice (some ⟨wc.heap.size, 0, none⟩) (n + 1) (n + 1)) (n + 1) (((os.set k (p + y - 10)).set (k + 1) 1).map (Value.int .i64))) := hide (by
              have := owns_set (owns_set (unhide HO3) k (p + y - 10)) (k + 1) 1
              rw [List.set_set] at this
              exact this)
            have HB4 := hide (((unhide HB3).setCell (p := ⟨wc.heap.size, k, none⟩) (Nat.le_refl _) (.int .i64 (p + y - 10))).setCell (p := ⟨wc.heap.size, k + 1, none⟩) (Nat.le_refl _) (.int .i64 1))
            go_wp2
            go_roundw
            case rel => exact ⟨k + 1, _, by go_num, by omega, HO4, HB4, PD⟩
            case measure => simp [intOf]; omega
      · have hkn' : k = n := by omega
        subst hkn'
        obtain ⟨d1, d2⟩ := plus_end xs ys os k (unhide HI) (by have := unhide HLA; omega) (by have := unhide HLB; omega)
        have hol : os.length = k + 1 := (unhide HI).len
        have HD := hide (And.intro d1 (And.intro d2 hol))
        clear d1 d2 hol
        go_wp2_with fail
        refine (trim_any _ os _ (by have := (unhide HD).2.2; omega) (arr_of_owns (unhide HD).2.2.symm (unhide HO))).mono ?_
        intro e w5 hp
        obtain ⟨rfl, v', us, rfl, q1, q2, q3, q4, q5⟩ := trim_num (unhide HD).1 hp
        have Q := hide (And.intro q1 (And.intro q2 (And.intro q3 (And.intro q4 q5))))
        clear q1 q2 q3 q4 q5 hp
        go_wp2
        go_ret
        obtain ⟨q1, q2, q3, q4, q5⟩ := unhide Q
        exact ⟨unhide HB, v', us, rfl, q1, q2, q3, by rw [q4]; exact (unhide HD).2.1, by have := (unhide HD).2.2; omega, q5.2 _ (fr_of_owns (unhide HO))⟩
end Go.Proofs.YtbeijnflfmjgfaaGreatDoor

namespace Go.Proofs.YtbeijnflfmjgfaaGreatDoor
open Go.RowKit

theorem below_next {w a b : World} (h : Below w.heap.size w a) (k : Below a.heap.size a b) : Below w.heap.size w b := h.trans (k.mono h.size)

theorem val_drop (zs : List Int) (k : Nat) (h0 : 0 < k) (hk : k ≤ zs.length) : Dc.val (zs.drop (k - 1)) = zs.getD (k - 1) 0 + 10 * Dc.val (zs.drop k) := by
  rw [drop_pred zs k h0 hk]; rfl
theorem val_drop_le (zs : List Int) (k : Nat) (hk : k ≤ zs.length) (hd : Dc.Dig zs) : 0 ≤ Dc.val (zs.drop k) ∧ Dc.val (zs.drop k) ≤ Dc.val zs := by
  have h0 := Dc.val_nonneg (zs.drop k) (fun x hx => hd x (List.mem_of_mem_drop hx))
  have h1 := Dc.val_nonneg (zs.take k) (hd.take k)
  have e := Dc.val_append (zs.take k) (zs.drop k)
  rw [List.take_append_drop, List.length_take, Nat.min_eq_left hk] at e
  have hp := Dc.pow_pos k
  have : (1 : Int) * Dc.val (zs.drop k) ≤ 10 ^ k * Dc.val (zs.drop k) := Int.mul_le_mul_of_nonneg_right (by omega) h0
  omega

def PairPost (r : Int × Int) (w : World) (e : Ending) (w' : World) : Prop := e = .returned (.tuple #[.int .i64 r.1, .int .i64 r.2]) ∧ Below w.heap.size w w'

set_option maxRecDepth 100000 in
set_option maxHeartbeats 2000000 in
theorem number_ref (v : Value) (zs : List Int) (neg : Bool) (w : World) (hz : zs.length ≤ 900) (hv : Arr w v zs) (hd : Dc.Dig zs) (hc : Dc.Cn zs) :
    Calls Tryz.prog 83 #[v, .bool neg] w fun e w' => PairPost (sgnN neg (Dc.val zs), sgnE (Dc.val zs)) w e w' := by
  have HD := hide (And.intro hd hc)
  have HV := hide hv
  obtain ⟨ad, cap, rfl, ho⟩ := arr_open hv
  have HO := hide ho
  obtain ⟨n, hn⟩ : ∃ n, zs.length = n := ⟨_, rfl⟩
  rw [hn] at hz ⊢
  rw [hn] at HO
  rw [hn] at HV
  have HN := hide hn
  clear hd hc hv ho hn
  go_enter Tryz.func83, Tryz.ntmps83
  go_wp2_with fail
  refine (digits_ref 9000000000000000000 _ (by omega) (by omega)).mono ?_
  rintro e w1 ⟨b1, vb, bs, rfl, k1, k2, k3, k4, k5⟩
  have K4 : Hid (Dc.val bs = 9000000000000000000) := hide k4
  have K := hide (And.intro k1 (And.intro k2 k3))
  clear k1 k2 k3 k4
  go_wp2_with fail
  refine (below_any _ _ bs zs _ (by omega) (by have := unhide HN; omega) (unhide K).1 ((unhide HV).below (Nat.le_refl _) b1) (unhide K).2.1 (unhide HD).1 (unhide K).2.2 (unhide HD).2).mono ?_
  rintro e w2 ⟨rfl, b2⟩
  have b12 := below_next b1 b2
  rw [unhide K4]
  by_cases hm : 9000000000000000000 < Dc.val zs
  · rw [decide_eq_true hm]
    have HR : Hid (sgnN neg (Dc.val zs) = 0 ∧ sgnE (Dc.val zs) = 5) := hide (by unfold sgnN sgnE; rw [if_pos hm, if_pos hm]; exact ⟨rfl, rfl⟩)
    clear hm
    go_wp2
    go_ret2
    exact ⟨by rw [(unhide HR).1, (unhide HR).2]; rfl, b12⟩
  · rw [decide_eq_false hm]
    have HR : Hid (sgnN neg (Dc.val zs) = (if neg = true then -Dc.val zs else Dc.val zs) ∧ sgnE (Dc.val zs) = 0) := hide (by unfold sgnN sgnE; rw [if_neg hm, if_neg hm]; exact ⟨rfl, rfl⟩)
    have HM := hide hm
    clear hm
    go_wp2
    go_loop [8, 9] (fun t i => ∃ k : Nat, i = .int .i64 ((k : Int) - 1) ∧ k ≤ n ∧ t = .int .i64 (Dc.val (zs.drop k))) (fun _ i => (intOf i + 1).toNat)
    case atStart => exact ⟨n, rfl, Nat.le_refl _, by rw [List.drop_of_length_le (by have := unhide HN; omega)]; rfl⟩
    case round =>
      obtain ⟨k, rfl, hk, rfl⟩ := hrel
      have hvd := val_drop_le zs k (by have := unhide HN; omega) (unhide HD).1
      rcases Nat.eq_zero_or_pos k with hk0 | hk0
      · subst hk0
        rw [List.drop_zero] at hvd ⊢
        obtain ⟨v1, v2⟩ := hvd
        have hm' := unhide HM
        obtain ⟨x, hx⟩ : ∃ x, Dc.val zs = x := ⟨_, rfl⟩
        rw [hx] at v1 hm' HR ⊢
        have HX := hide hx
        clear hx v2
        cases neg
        · go_wp2
          go_ret2
          exact ⟨by rw [unhide HX, (unhide HR).1, (unhide HR).2]; rfl, b12⟩
        · go_wp2
          go_ret2
          exact ⟨by rw [unhide HX, (unhide HR).1, (unhide HR).2]; rfl, b12⟩
      · obtain ⟨b, o, rfl, hb, hcell⟩ := unhide HO (by omega)
        have hc := hcell (k - 1) (by omega)
        rw [← b12.cell (p := ⟨b, o + (k - 1), none⟩) hb] at hc
        have hvs := val_drop zs k hk0 (by have := unhide HN; omega)
        have hv1 := val_drop_le zs (k - 1) (by have := unhide HN; omega) (unhide HD).1
        have hg := (unhide HD).1.getD (k - 1)
        have hm' := unhide HM
        obtain ⟨d, hd⟩ : ∃ d, zs.getD (k - 1) 0 = d := ⟨_, rfl⟩
        obtain ⟨x, hx⟩ : ∃ x, Dc.val (zs.drop k) = x := ⟨_, rfl⟩
        obtain ⟨y, hy⟩ : ∃ y, Dc.val (zs.drop (k - 1)) = y := ⟨_, rfl⟩
        rw [hd] at hc hvs hg
        rw [hx] at hvs hvd ⊢
        rw [hy] at hvs hv1
        have hxb : 0 ≤ x ∧ 10 * x + d ≤ 9000000000000000000 := by omega
        obtain ⟨x1, x2⟩ := hxb
        obtain ⟨d1, d2⟩ := hg
        have HY : Hid (Dc.val (zs.drop (k - 1)) = 10 * x + d) := hide (by rw [hy]; omega)
        have ek : ((k : Int) - 1).toNat = k - 1 := by omega
        clear hcell hv1 hvd hvs hy hx hd hm'
        go_wp2
        go_round
        case rel => exact ⟨k - 1, int_eqv (by omega), by omega, by rw [unhide HY]⟩
        case measure => simp [intOf]; omega

theorem add_ref_eq (a b : Int) (hg : (goodB a && goodB b) = true) :
    (decide (a < 0) = decide (b < 0) → (sgnN (decide (a < 0)) ((a.natAbs : Int) + (b.natAbs : Int)), sgnE ((a.natAbs : Int) + (b.natAbs : Int))) = (addN a b, addE a b)) ∧
    (decide (a < 0) ≠ decide (b < 0) → addN a b = a + b ∧ addE a b = 0) := by
  rw [Bool.and_eq_true, goodB_iff, goodB_iff] at hg
  constructor
  · intro hs
    unfold sgnN sgnE addN addE
    by_cases ha : a < 0
    · have hb : b < 0 := by rw [decide_eq_true ha] at hs; exact of_decide_eq_true hs.symm
      rw [decide_eq_true ha]
      by_cases ho : okAdd a b = true
      · have h := (okAdd_iff a b).1 ho
        have hle : ¬ (9000000000000000000 : Int) < (a.natAbs : Int) + (b.natAbs : Int) := by omega
        rw [if_pos ho, if_pos ho, if_neg hle, if_neg hle, if_pos rfl]
        exact Prod.ext (by show -((a.natAbs : Int) + (b.natAbs : Int)) = a + b; omega) rfl
      · have h : ¬ _ := fun h => ho ((okAdd_iff a b).2 h)
        have hgt : (9000000000000000000 : Int) < (a.natAbs : Int) + (b.natAbs : Int) := by omega
        rw [if_neg ho, if_neg ho, if_pos hgt, if_pos hgt]
    · have hb : ¬ b < 0 := by rw [decide_eq_false ha] at hs; exact of_decide_eq_false hs.symm
      rw [decide_eq_false ha]
      by_cases ho : okAdd a b = true
      · have h := (okAdd_iff a b).1 ho
        have hle : ¬ (9000000000000000000 : Int) < (a.natAbs : Int) + (b.natAbs : Int) := by omega
        rw [if_pos ho, if_pos ho, if_neg hle, if_neg hle]
        exact Prod.ext (by show (a.natAbs : Int) + (b.natAbs : Int) = a + b; omega) rfl
      · have h : ¬ _ := fun h => ho ((okAdd_iff a b).2 h)
        have hgt : (9000000000000000000 : Int) < (a.natAbs : Int) + (b.natAbs : Int) := by omega
        rw [if_neg ho, if_neg ho, if_pos hgt, if_pos hgt]
  · intro hs
    have ho : okAdd a b = true := by
      rw [okAdd_iff]
      by_cases ha : a < 0 <;> by_cases hb : b < 0
      · exact absurd (by rw [decide_eq_true ha, decide_eq_true hb]) hs
      · omega
      · omega
      · exact absurd (by rw [decide_eq_false ha, decide_eq_false hb]) hs
    unfold addN addE
    rw [ho]; exact ⟨rfl, rfl⟩

set_option maxRecDepth 100000 in
set_option maxHeartbeats 2000000 in
theorem add_ref (a b : Int) (w : World) (ha1 : -9223372036854775808 ≤ a) (ha2 : a ≤ 9223372036854775807) (hb1 : -9223372036854775808 ≤ b) (hb2 : b ≤ 9223372036854775807) :
    Calls Tryz.prog 43 #[.int .i64 a, .int .i64 b] w fun e w' => PairPost (addN a b, addE a b) w e w' := by
  cases hg : (goodB a && goodB b)
  · have ho : okAdd a b = false := by unfold okAdd; rw [hg]; rfl
    have e : addN a b = 0 ∧ addE a b = 5 := by unfold addN addE; rw [ho]; exact ⟨rfl, rfl⟩
    rw [e.1, e.2]
    clear e ho
    cases ha : goodB a
    · have HA := hide ha
      clear ha hg
      go_enter Tryz.func43, Tryz.ntmps43
      go_wp2_with fail
      refine (good_ref a _).mono ?_
      rintro e w1 ⟨rfl, rfl⟩
      rw [unhide HA]
      go_wp2_with fail
      refine (good_ref b _).mono ?_
      rintro e w2 ⟨rfl, rfl⟩
      go_wp2
      go_ret2
      exact ⟨rfl, Below.refl _ _⟩
    · have hb : goodB b = false := by rw [ha] at hg; exact hg
      have HA := hide ha
      have HB := hide hb
      clear ha hb hg
      go_enter Tryz.func43, Tryz.ntmps43
      go_wp2_with fail
      refine (good_ref a _).mono ?_
      rintro e w1 ⟨rfl, rfl⟩
      rw [unhide HA]
      go_wp2_with fail
      refine (good_ref b _).mono ?_
      rintro e w2 ⟨rfl, rfl⟩
      rw [unhide HB]
      go_wp2
      go_ret2
      exact ⟨rfl, Below.refl _ _⟩
  · obtain ⟨r1, r2⟩ := add_ref_eq a b hg
    have hg' := hg
    rw [Bool.and_eq_true] at hg
    have HA := hide hg.1
    have HB := hide hg.2
    rw [goodB_iff, goodB_iff] at hg
    obtain ⟨⟨a1, a2⟩, b1, b2⟩ := hg
    clear hg'
    by_cases hs : decide (a < 0) = decide (b < 0)
    · have HR := hide (r1 hs)
      have hsb : (decide (a < 0) == decide (b < 0)) = true := by rw [beq_iff_eq]; exact hs
      have HS := hide hs
      clear r1 r2 hs
      go_enter Tryz.func43, Tryz.ntmps43
      go_wp2_with fail
      refine (good_ref a _).mono ?_
      rintro e w1 ⟨rfl, rfl⟩
      rw [unhide HA]
      go_wp2_with fail
      refine (good_ref b _).mono ?_
      rintro e w2 ⟨rfl, rfl⟩
      rw [unhide HB]
      go_wp2_with fail
      refine (digits_ref a _ (by omega) (by omega)).mono ?_
      rintro e w3 ⟨b3, va, xs, rfl, x1, x2, x3, x4, x5⟩
      have X := hide (And.intro x1 (And.intro x2 (And.intro x3 (And.intro x4 x5))))
      clear x1 x2 x3 x4 x5
      go_wp2_with fail
      refine (digits_ref b _ (by omega) (by omega)).mono ?_
      rintro e w4 ⟨b4, vb, ys, rfl, y1, y2, y3, y4, y5⟩
      have Y := hide (And.intro y1 (And.intro y2 (And.intro y3 (And.intro y4 y5))))
      clear y1 y2 y3 y4 y5
      go_wp2_with fail
      refine (plus_ref _ _ xs ys _ (by have := (unhide X).2.2.2.2; omega) (by have := (unhide Y).2.2.2.2; omega) ((unhide X).1.below (Nat.le_refl _) b4) (unhide Y).1 (unhide X).2.1 (unhide Y).2.1).mono ?_
      rintro e w5 ⟨b5, vs, zs, rfl, z1, z2, z3, z4, z5⟩
      have Z : Hid (Arr w5 vs zs ∧ Dc.Dig zs ∧ Dc.Cn zs ∧ Dc.val zs = (a.natAbs : Int) + (b.natAbs : Int) ∧ zs.length ≤ 900) := hide ⟨z1, z2, z3, by rw [z4, (unhide X).2.2.2.1, (unhide Y).2.2.2.1], by have := (unhide X).2.2.2.2; have := (unhide Y).2.2.2.2; omega⟩
      clear z1 z2 z3 z4 z5
      go_wp2_with fail
      refine (number_ref _ zs _ _ (unhide Z).2.2.2.2 (unhide Z).1 (unhide Z).2.1 (unhide Z).2.2.1).mono ?_
      rintro e w6 ⟨rfl, b6⟩
      rw [(unhide Z).2.2.2.1, unhide HR]
      go_wp2
      go_ret2
      exact ⟨rfl, below_next (below_next (below_next b3 b4) b5) b6⟩
    · have HR := hide (r2 hs)
      have hsb : (decide (a < 0) == decide (b < 0)) = false := by rw [beq_eq_false_iff_ne]; exact hs
      have hsum : -9000000000000000000 ≤ a + b ∧ a + b ≤ 9000000000000000000 := by
        by_cases ha : a < 0 <;> by_cases hb : b < 0
        · exact absurd (by rw [decide_eq_true ha, decide_eq_true hb]) hs
        · omega
        · omega
        · exact absurd (by rw [decide_eq_false ha, decide_eq_false hb]) hs
      obtain ⟨s1, s2⟩ := hsum
      have HS := hide hs
      clear r1 r2 hs
      rw [(unhide HR).1, (unhide HR).2]
      go_enter Tryz.func43, Tryz.ntmps43
      go_wp2_with fail
      refine (good_ref a _).mono ?_
      rintro e w1 ⟨rfl, rfl⟩
      rw [unhide HA]
      go_wp2_with fail
      refine (good_ref b _).mono ?_
      rintro e w2 ⟨rfl, rfl⟩
      rw [unhide HB]
      go_wp2
      go_ret2
      exact ⟨rfl, Below.refl _ _⟩

def subR (a b : Int) : Int × Int := if goodB b = true then (addN a (-b), addE a (-b)) else (0, 5)
set_option maxHeartbeats 2000000 in
theorem sub_ref (a b : Int) (w : World) (ha1 : -9223372036854775808 ≤ a) (ha2 : a ≤ 9223372036854775807) :
    Calls Tryz.prog 44 #[.int .i64 a, .int .i64 b] w fun e w' => PairPost (subR a b) w e w' := by
  cases hg : goodB b
  · have e : subR a b = (0, 5) := by unfold subR; rw [hg]; rfl
    rw [e]
    have HG := hide hg
    clear hg e
    go_enter Tryz.func44, Tryz.ntmps44
    go_wp2_with fail
    refine (good_ref b _).mono ?_
    rintro e w1 ⟨rfl, rfl⟩
    rw [unhide HG]
    go_wp2
    go_ret2
    exact ⟨rfl, Below.refl _ _⟩
  · have e : subR a b = (addN a (-b), addE a (-b)) := by unfold subR; rw [hg]; rfl
    rw [e]
    have HG := hide hg
    rw [goodB_iff] at hg
    obtain ⟨g1, g2⟩ := hg
    clear e
    go_enter Tryz.func44, Tryz.ntmps44
    go_wp2_with fail
    refine (good_ref b _).mono ?_
    rintro e w1 ⟨rfl, rfl⟩
    rw [unhide HG]
    go_wp2_with fail
    refine (add_ref a (-b) _ ha1 ha2 (by omega) (by omega)).mono ?_
    rintro e w2 ⟨rfl, b2⟩
    go_wp2
    go_ret2
    exact ⟨rfl, b2⟩
end Go.Proofs.YtbeijnflfmjgfaaGreatDoor

namespace Go.Proofs.YtbeijnflfmjgfaaGreatDoor
open Go.RowKit

structure TimesIn (xs ys os : List Int) (L i k : Nat) : Prop where
  len : os.length = L
  pos : ∀ j, 0 ≤ os.getD j 0
  low : ∀ j, j < i + k → os.getD j 0 ≤ 81 * ((i : Int) + 1)
  high : ∀ j, i + k ≤ j → os.getD j 0 ≤ 81 * (i : Int)
  sum : Dc.val os = Dc.val (xs.take i) * Dc.val ys + 10 ^ i * (xs.getD i 0 * Dc.val (ys.take k))

theorem times_step (xs ys os : List Int) (L i k : Nat) (h1 : i + k < L) (dx : Dc.Dig xs) (dy : Dc.Dig ys) (h : TimesIn xs ys os L i k) :
    TimesIn xs ys (os.set (i + k) (os.getD (i + k) 0 + xs.getD i 0 * ys.getD k 0)) L i (k + 1) := by
  obtain ⟨l, p, lo, hi, s⟩ := h
  have a1 := dx.getD i
  have a2 := dy.getD k
  have a3 : 0 ≤ xs.getD i 0 * ys.getD k 0 := Int.mul_nonneg a1.1 a2.1
  have a4 : xs.getD i 0 * ys.getD k 0 ≤ 81 := by
    have b1 : xs.getD i 0 * ys.getD k 0 ≤ xs.getD i 0 * 9 := Int.mul_le_mul_of_nonneg_left a2.2 a1.1
    omega
  refine ⟨by simpa using l, fun j => ?_, fun j hj => ?_, fun j hj => ?_, ?_⟩
  · rw [Dc.getD_set _ _ _ _ (by omega)]
    split
    · have := p (i + k); omega
    · exact p j
  · rw [Dc.getD_set _ _ _ _ (by omega)]
    split
    · have := hi (i + k) (by omega); omega
    · exact lo j (by omega)
  · rw [Dc.getD_set _ _ _ _ (by omega), if_neg (by omega)]
    exact hi j (by omega)
  · rw [Dc.val_set _ _ _ (by omega), s, Dc.val_take_succ, Int.pow_add]
    have e : os.getD (i + k) 0 + xs.getD i 0 * ys.getD k 0 - os.getD (i + k) 0 = xs.getD i 0 * ys.getD k 0 := by omega
    rw [e, Int.mul_add, Int.mul_add, Int.add_assoc]
    congr 2
    rw [Int.mul_assoc]
    congr 1
    rw [← Int.mul_assoc, ← Int.mul_assoc, Int.mul_comm (10 ^ k) (xs.getD i 0)]
theorem times_next (xs ys os : List Int) (L i k : Nat) (hk : ys.length ≤ k) (h : TimesIn xs ys os L i k) : TimesIn xs ys os L (i + 1) 0 := by
  obtain ⟨l, p, lo, hi, s⟩ := h
  refine ⟨l, p, fun j hj => ?_, fun j hj => ?_, ?_⟩
  · rcases Nat.lt_or_ge j (i + k) with h1 | h1
    · have := lo j h1; omega
    · have := hi j h1; omega
  · rcases Nat.lt_or_ge j (i + k) with h1 | h1
    · have := lo j h1; omega
    · have := hi j h1; omega
  · rw [s, List.take_of_length_le hk, Dc.val_take_succ, Int.add_mul, Int.mul_assoc]
    simp [Dc.val]
theorem times_start (xs ys : List Int) (L : Nat) : TimesIn xs ys (List.replicate L 0) L 0 0 :=
  ⟨by simp, fun j => by rw [Dc.getD_zeros]; omega, fun j hj => by omega, fun j _ => by rw [Dc.getD_zeros]; omega, by rw [Dc.val_zeros]; simp [Dc.val]⟩

structure CarryIn (os : List Int) (V M : Int) (L i : Nat) : Prop where
  len : os.length = L
  low : ∀ j, j < i → 0 ≤ os.getD j 0 ∧ os.getD j 0 ≤ 9
  mid : 0 ≤ os.getD i 0 ∧ os.getD i 0 ≤ 90 * M
  high : ∀ j, i < j → 0 ≤ os.getD j 0 ∧ os.getD j 0 ≤ 81 * M
  sum : Dc.val os = V
theorem carry_step (os : List Int) (V M : Int) (L i : Nat) (h1 : i + 1 < L) (h : CarryIn os V M L i) :
    CarryIn ((os.set (i + 1) (os.getD (i + 1) 0 + os.getD i 0 / 10)).set i (os.getD i 0 % 10)) V M L (i + 1) := by
  obtain ⟨l, lo, m, hi, s⟩ := h
  have h2 := hi (i + 1) (by omega)
  refine ⟨by simpa using l, fun j hj => ?_, ?_, fun j hj => ?_, ?_⟩
  · rw [Dc.getD_set _ _ _ _ (by simp; omega)]
    split
    · omega
    · rw [Dc.getD_set _ _ _ _ (by omega), if_neg (by omega)]; exact lo j (by omega)
  · rw [Dc.getD_set _ _ _ _ (by simp; omega), if_neg (by omega), Dc.getD_set _ _ _ _ (by omega), if_pos rfl]
    omega
  · rw [Dc.getD_set _ _ _ _ (by simp; omega), if_neg (by omega), Dc.getD_set _ _ _ _ (by omega), if_neg (by omega)]
    exact hi j (by omega)
  · rw [Dc.val_set _ _ _ (by simp; omega), Dc.getD_set _ _ _ _ (by omega), if_neg (by omega), Dc.val_set _ _ _ (by omega), s, Int.pow_succ]
    have : (10 : Int) ^ i * 10 * (os.getD (i + 1) 0 + os.getD i 0 / 10 - os.getD (i + 1) 0) + 10 ^ i * (os.getD i 0 % 10 - os.getD i 0) = 0 := by
      rw [Int.mul_assoc, ← Int.mul_add]
      have : 10 * (os.getD (i + 1) 0 + os.getD i 0 / 10 - os.getD (i + 1) 0) + (os.getD i 0 % 10 - os.getD i 0) = 0 := by omega
      rw [this, Int.mul_zero]
    omega
theorem carry_start (xs ys os : List Int) (L la : Nat) (hx : xs.length ≤ la) (h : TimesIn xs ys os L la 0) : CarryIn os (Dc.val xs * Dc.val ys) ((la : Int) + 1) L 0 := by
  obtain ⟨l, p, lo, hi, s⟩ := h
  have hb : ∀ j, 0 ≤ os.getD j 0 ∧ os.getD j 0 ≤ 81 * ((la : Int) + 1) := by
    intro j
    refine ⟨p j, ?_⟩
    rcases Nat.lt_or_ge j (la + 0) with h1 | h1
    · exact lo j h1
    · have := hi j h1; omega
  refine ⟨l, fun j hj => by omega, ⟨(hb 0).1, by have := (hb 0).2; omega⟩, fun j _ => hb j, ?_⟩
  rw [s, List.take_of_length_le hx]
  simp [Dc.val]
theorem carry_end (os : List Int) (V M : Int) (L i : Nat) (hi : i + 1 = L) (hV : V < 10 ^ i) (h : CarryIn os V M L i) : Dc.Dig os ∧ Dc.val os = V := by
  obtain ⟨l, lo, m, hi', s⟩ := h
  refine ⟨Dc.dig_of_getD fun j hj => ?_, s⟩
  rcases Nat.lt_or_ge j i with h1 | h1
  · exact lo j h1
  · have hj : j = i := by omega
    subst hj
    have e := Dc.val_take_succ os j
    rw [List.take_of_length_le (by omega), s] at e
    have hd : Dc.Dig (os.take j) := Dc.dig_of_getD fun k hk => by
      rw [List.length_take] at hk
      have := lo k (by omega)
      rw [List.getD_eq_getElem?_getD, List.getElem?_take, if_pos (by omega), ← List.getD_eq_getElem?_getD]
      exact this
    have hn := Dc.val_nonneg _ hd
    refine ⟨m.1, ?_⟩
    rcases Int.lt_or_le 9 (os.getD j 0) with h9 | h9
    · exfalso
      have hp := Dc.pow_pos j
      have : (10 : Int) ^ j * 1 ≤ 10 ^ j * os.getD j 0 := Int.mul_le_mul_of_nonneg_left (by omega) (by omega)
      omega
    · exact h9
theorem mul_lt (xs ys : List Int) (dx : Dc.Dig xs) (dy : Dc.Dig ys) : 0 ≤ Dc.val xs * Dc.val ys ∧ Dc.val xs * Dc.val ys < 10 ^ (xs.length + ys.length) := by
  have a0 := Dc.val_nonneg xs dx
  have b0 := Dc.val_nonneg ys dy
  have a1 := Dc.val_lt xs dx
  have b1 := Dc.val_lt ys dy
  refine ⟨Int.mul_nonneg a0 b0, ?_⟩
  rw [Int.pow_add]
  have hp := Dc.pow_pos ys.length
  have h1 : Dc.val xs * Dc.val ys ≤ Dc.val xs * 10 ^ ys.length := Int.mul_le_mul_of_nonneg_left (by omega) a0
  have h2 : Dc.val xs * 10 ^ ys.length < 10 ^ xs.length * 10 ^ ys.length := Int.mul_lt_mul_of_pos_right a1 hp
  omega

theorem row_world {B L : Nat} {w wr w2 : World} {os : List Int} {j : Nat} {v : Int} (hO : wr.ownsRow B 3 1 (.slice (some ⟨B, 0, none⟩) L L) L (os.map (Value.int .i64))) (hB : Below B w wr)
    (hw : w2 = (wr.setCell ⟨B, j, none⟩ (.int .i64 v)).drew) : Hid (w2.ownsRow B 3 1 (.slice (some ⟨B, 0, none⟩) L L) L ((os.set j v).map (Value.int .i64))) ∧ Hid (Below B w w2) := by
  have hO2 := (owns_set hO j v).drew
  rw [← hw] at hO2
  refine ⟨hO2, ?_⟩
  rw [hw]
  exact (hB.setCell (p := ⟨B, j, none⟩) (Nat.le_refl _) _).drew

set_option maxRecDepth 100000 in
set_option maxHeartbeats 8000000 in
theorem times_ref (va vb : Value) (xs ys : List Int) (w : World) (hx : xs.length ≤ 200) (hy : ys.length ≤ 200) (hva : Arr w va xs) (hvb : Arr w vb ys) (dx : Dc.Dig xs) (dy : Dc.Dig ys) :
    Calls Tryz.prog 84 #[va, vb] w fun e w' => NumPost (Dc.val xs * Dc.val ys) (xs.length + ys.length + 1) w e w' := by
  obtain ⟨i0, hi, hz0, hz1, hz2⟩ := info_parts info3
  obtain ⟨xa, capa, rfl, hoa⟩ := arr_open hva
  obtain ⟨xb, capb, rfl, hob⟩ := arr_open hvb
  obtain ⟨la, hla⟩ : ∃ la, xs.length = la := ⟨_, rfl⟩
  obtain ⟨lb, hlb⟩ : ∃ lb, ys.length = lb := ⟨_, rfl⟩
  have hml := mul_lt xs ys dx dy
  rw [hla, hlb] at hml
  rw [hla] at hx hoa ⊢
  rw [hlb] at hy hob ⊢
  have HML := hide hml
  have HLA := hide hla
  have HLB := hide hlb
  have HOA := hide hoa
  have HOB := hide hob
  have HDX := hide (And.intro dx dy)
  clear hva hvb hla hlb hoa hob dx dy hml
  obtain ⟨L, hL⟩ : ∃ L, la + lb + 1 = L := ⟨_, rfl⟩
  have eL : ((la : Int) + (lb : Int) + 1) = (L : Int) := by omega
  have EL := hide eL
  have hL5 : L ≤ 401 := by omega
  have HL := hide hL
  clear eL
  rw [hL]
  clear hL
  go_enter Tryz.func84, Tryz.ntmps84
  go_wp2_with (first
    | (at_make; refine wpList_make_full _ rfl _ _ 49 rfl w.heap.size 3 i0 (.int .i64 0) 1 Tryz.underlying49 hi hz0 hz1 _ _ _ _ L rfl rfl (by exact unhide EL) (by exact unhide EL) (by rw [hz2]; omega) (by unfold maxLen; omega) (Nat.le_refl _) ?_)
    | go_in)
  intro w1 hown hgrow
  have HB : Hid (Below w.heap.size w w1) := hide ((Below.refl _ _).grown hgrow (Nat.le_refl _) (fun k hk => by cases hk))
  have HO : Hid (w1.ownsRow w.heap.size 3 1 (.slice (some ⟨w.heap.size, 0, none⟩) L L) L ((List.replicate L (0 : Int)).map (Value.int .i64))) := hide (by
    have := made_map L
    rw [Nat.mul_one] at this
    rw [← this]; exact hown)
  clear hown hgrow hi hz0 hz1 hz2
  go_wp2
  go_loopw [6] (fun t wr => ∃ (i : Nat) (os : List Int), t = .int .i64 (i : Int) ∧ i ≤ la ∧ Hid (wr.ownsRow w.heap.size 3 1 (.slice (some ⟨w.heap.size, 0, none⟩) L L) L (os.map (Value.int .i64))) ∧ Hid (Below w.heap.size w wr) ∧ Hid (TimesIn xs ys os L i 0)) (fun t _ => la - (intOf t).toNat)
  case atStart => exact ⟨0, _, rfl, Nat.zero_le _, HO, HB, hide (times_start xs ys L)⟩
  case round =>
    clear HO HB
    obtain ⟨i, os, rfl, hi, HO, HB, HI⟩ := hrel
    by_cases hil : i < la
    · go_wp2
      go_loopw [7] (fun t wr => ∃ (k : Nat) (os : List Int), t = .int .i64 (k : Int) ∧ k ≤ lb ∧ Hid (wr.ownsRow w.heap.size 3 1 (.slice (some ⟨w.heap.size, 0, none⟩) L L) L (os.map (Value.int .i64))) ∧ Hid (Below w.heap.size w wr) ∧ Hid (TimesIn xs ys os L i k)) (fun t _ => lb - (intOf t).toNat)
      case atStart => exact ⟨0, os, rfl, Nat.zero_le _, HO, HB, HI⟩
      case round =>
        clear HO HB HI
        obtain ⟨k, os, rfl, hk, HO, HB, HI⟩ := hrel
        by_cases hkl : k < lb
        · have hikL : i + k < L := by have := unhide HL; omega
          have c0 := owns_cell (unhide HO) (i + k) hikL
          have f0 := (unhide HO).frozenAt (i + k)
          have p0 := (unhide HI).pos (i + k)
          have p1 := (unhide HI).high (i + k) (by omega)
          obtain ⟨ba, oa, rfl, ba1, ca⟩ := unhide HOA (by omega)
          obtain ⟨bb, ob, rfl, bb1, cb⟩ := unhide HOB (by omega)
          have ca := ca i hil
          have cb := cb k hkl
          rw [← (unhide HB).cell (p := ⟨ba, oa + i, none⟩) ba1] at ca
          rw [← (unhide HB).cell (p := ⟨bb, ob + k, none⟩) bb1] at cb
          have sx := (unhide HDX).1.getD i
          have sy := (unhide HDX).2.getD k
          have TS := times_step xs ys os L i k hikL (unhide HDX).1 (unhide HDX).2 (unhide HI)
          have a3 : 0 ≤ xs.getD i 0 * ys.getD k 0 := Int.mul_nonneg sx.1 sy.1
          have a4 : xs.getD i 0 * ys.getD k 0 ≤ 81 := by
            have b1 : xs.getD i 0 * ys.getD k 0 ≤ xs.getD i 0 * 9 := Int.mul_le_mul_of_nonneg_left sy.2 sx.1
            omega
          obtain ⟨p, hp⟩ : ∃ p, os.getD (i + k) 0 = p := ⟨_, rfl⟩
          obtain ⟨x, hx0⟩ : ∃ x, xs.getD i 0 = x := ⟨_, rfl⟩
          obtain ⟨y, hy0⟩ : ∃ y, ys.getD k 0 = y := ⟨_, rfl⟩
          obtain ⟨z, hz⟩ : ∃ z, x * y = z := ⟨_, rfl⟩
          rw [hp] at c0 p0 p1
          rw [hx0] at ca a3 a4
          rw [hy0] at cb a3 a4
          rw [hz] at a3 a4
          rw [hp, hx0, hy0, hz] at TS
          have TS := hide TS
          have eik : ((i : Int) + (k : Int)).toNat = i + k := by omega
          have hb1 : (i : Int) + (k : Int) < (L : Int) := by omega
          have hpb : p ≤ 20000 := by omega
          clear hp hx0 hy0 sx sy p1
          go_wp2
          go_region
          obtain ⟨w2, ew2⟩ : ∃ w2, (wr.setCell ⟨w.heap.size, i + k, none⟩ (.int .i64 (p + z))).drew = w2 := ⟨_, rfl⟩
          rw [ew2]
          obtain ⟨HO', HB'⟩ := row_world (unhide HO) (unhide HB) ew2.symm
          clear c0 f0 ew2 ca cb
          go_wp2
          go_roundw
          case rel => exact ⟨k + 1, _, by go_num, by omega, HO', HB', TS⟩
          case measure => simp [intOf]; omega
        · have TN := hide (times_next xs ys os L i k (by have := unhide HLB; omega) (unhide HI))
          go_wp2
          go_roundw
          case rel => exact ⟨i + 1, os, by go_num, by omega, HO, HB, TN⟩
          case measure => simp [intOf]; omega
    · have hil' : i = la := by omega
      subst hil'
      have CS := hide (carry_start xs ys os L i (by have := unhide HLA; omega) (unhide HI))
      go_wp2
      go_loopw [8] (fun t wr => ∃ (k : Nat) (os : List Int), t = .int .i64 (k : Int) ∧ k + 1 ≤ L ∧ Hid (wr.ownsRow w.heap.size 3 1 (.slice (some ⟨w.heap.size, 0, none⟩) L L) L (os.map (Value.int .i64))) ∧ Hid (Below w.heap.size w wr) ∧ Hid (CarryIn os (Dc.val xs * Dc.val ys) ((i : Int) + 1) L k)) (fun t _ => L - (intOf t).toNat)
      case atStart => exact ⟨0, os, rfl, by have := unhide HL; omega, HO, HB, CS⟩
      case round =>
        clear HO HB HI CS
        obtain ⟨k, os, rfl, hk, HO, HB, HI⟩ := hrel
        by_cases hkl : k + 1 < L
        · have c0 := owns_cell (unhide HO) k (by omega)
          have c1 := owns_cell (unhide HO) (k + 1) (by omega)
          have f0 := (unhide HO).frozenAt k
          have f1 := (unhide HO).frozenAt (k + 1)
          have m0 := (unhide HI).mid
          have m1 := (unhide HI).high (k + 1) (by omega)
          have hlen := (unhide HI).len
          have TS := carry_step os _ _ L k hkl (unhide HI)
          obtain ⟨p, hp⟩ : ∃ p, os.getD k 0 = p := ⟨_, rfl⟩
          obtain ⟨q, hq⟩ : ∃ q, os.getD (k + 1) 0 = q := ⟨_, rfl⟩
          rw [hp] at c0 m0
          rw [hq] at c1 m1
          rw [hp, hq] at TS
          have TS := hide TS
          have HP := hide hp
          have HLEN := hide hlen
          obtain ⟨p0, p1⟩ := m0
          obtain ⟨q0, q1⟩ := m1
          have pb : p ≤ 40000 := by omega
          have qb : q ≤ 40000 := by omega
          have ek1 : ((k : Int) + 1).toNat = k + 1 := by omega
          clear hp hq p1 q1 hlen
          go_wp2
          go_region
          obtain ⟨w2, ew2⟩ : ∃ w2, (wr.setCell ⟨w.heap.size, k + 1, none⟩ (.int .i64 (q + p / 10))).drew = w2 := ⟨_, rfl⟩
          rw [ew2]
          obtain ⟨HO', HB'⟩ := row_world (unhide HO) (unhide HB) ew2.symm
          clear c0 c1 f0 f1 ew2
          have c0 := owns_cell (unhide HO') k (by omega)
          have f0 := (unhide HO').frozenAt k
          rw [Dc.getD_set _ _ _ _ (by have := unhide HLEN; omega), if_neg (by omega), unhide HP] at c0
          have HO4 : Hid ((w2.setCell ⟨w.heap.size, k, none⟩ (.int .i64 (p % 10))).ownsRow w.heap.size 3 1 (.slice (some ⟨w.heap.size, 0, none⟩) L L) L (((os.set (k + 1) (q + p / 10)).set k (p % 10)).map (Value.int .i64))) := hide (owns_set (unhide HO') k (p % 10))
          have HB4 := hide ((unhide HB').setCell (p := ⟨w.heap.size, k, none⟩) (Nat.le_refl _) (.int .i64 (p % 10)))
          go_wp2
          go_roundw
          case rel => exact ⟨k + 1, _, by go_num, by omega, HO4, HB4, TS⟩
          case measure => simp [intOf]; omega
        · have hk1 : k + 1 = L := by omega
          have hkl2 : k = i + lb := by have := unhide HL; omega
          obtain ⟨d1, d2⟩ := carry_end os _ _ L k hk1 (by rw [hkl2]; exact (unhide HML).2) (unhide HI)
          have hol : os.length = L := (unhide HI).len
          have HD := hide (And.intro d1 (And.intro d2 hol))
          have HK := hide hkl2
          clear d1 d2 hol hkl2
          go_wp2_with fail
          refine (trim_any _ os _ (by have := (unhide HD).2.2; omega) (arr_of_owns (unhide HD).2.2.symm (unhide HO))).mono ?_
          intro e w5 hp
          obtain ⟨rfl, v', us, rfl, q1, q2, q3, q4, q5⟩ := trim_num (unhide HD).1 hp
          have Q := hide (And.intro q1 (And.intro q2 (And.intro q3 (And.intro q4 q5))))
          clear q1 q2 q3 q4 q5 hp
          go_wp2
          go_ret
          obtain ⟨q1, q2, q3, q4, q5⟩ := unhide Q
          exact ⟨unhide HB, v', us, rfl, q1, q2, q3, by rw [q4]; exact (unhide HD).2.1, by have := (unhide HD).2.2; omega, q5.2 _ (fr_of_owns (unhide HO))⟩
end Go.Proofs.YtbeijnflfmjgfaaGreatDoor

namespace Go.Proofs.YtbeijnflfmjgfaaGreatDoor
open Go.RowKit

structure MinusIn (xs ys os : List Int) (n k : Nat) (t : Int) : Prop where
  len : os.length = n
  low : ∀ j, j < k → 0 ≤ os.getD j 0 ∧ os.getD j 0 ≤ 9
  high : ∀ j, k ≤ j → os.getD j 0 = 0
  bit : t = 0 ∨ t = 1
  sum : Dc.val os = Dc.val (xs.take k) - Dc.val (ys.take k) + 10 ^ k * t
theorem minus_step (xs ys os : List Int) (n k : Nat) (t : Int) (hk : k < n) (dx : Dc.Dig xs) (dy : Dc.Dig ys) (h : MinusIn xs ys os n k t) :
    (0 ≤ xs.getD k 0 - t - ys.getD k 0 → MinusIn xs ys (os.set k (xs.getD k 0 - t - ys.getD k 0)) n (k + 1) 0) ∧
    (xs.getD k 0 - t - ys.getD k 0 < 0 → MinusIn xs ys (os.set k (xs.getD k 0 - t - ys.getD k 0 + 10)) n (k + 1) 1) := by
  obtain ⟨l, lo, hi, b, s⟩ := h
  have a1 := dx.getD k
  have a2 := dy.getD k
  have z := hi k (Nat.le_refl _)
  constructor
  · intro hs
    refine ⟨by simpa using l, fun j hj => ?_, fun j hj => ?_, Or.inl rfl, ?_⟩
    · rw [Dc.getD_set _ _ _ _ (by omega)]
      split
      · omega
      · exact lo j (by omega)
    · rw [Dc.getD_set _ _ _ _ (by omega), if_neg (by omega)]; exact hi j (by omega)
    · rw [Dc.val_set _ _ _ (by omega), z, s, Dc.val_take_succ, Dc.val_take_succ]
      have : (10 : Int) ^ k * (xs.getD k 0 - t - ys.getD k 0 - 0) = 10 ^ k * xs.getD k 0 - 10 ^ k * t - 10 ^ k * ys.getD k 0 := by
        rw [← Int.mul_sub, ← Int.mul_sub]; congr 1; omega
      rw [this]; omega
  · intro hs
    refine ⟨by simpa using l, fun j hj => ?_, fun j hj => ?_, Or.inr rfl, ?_⟩
    · rw [Dc.getD_set _ _ _ _ (by omega)]
      split
      · omega
      · exact lo j (by omega)
    · rw [Dc.getD_set _ _ _ _ (by omega), if_neg (by omega)]; exact hi j (by omega)
    · rw [Dc.val_set _ _ _ (by omega), z, s, Dc.val_take_succ, Dc.val_take_succ, Int.pow_succ]
      have : (10 : Int) ^ k * (xs.getD k 0 - t - ys.getD k 0 + 10 - 0) = 10 ^ k * xs.getD k 0 - 10 ^ k * t - 10 ^ k * ys.getD k 0 + 10 ^ k * 10 := by
        rw [← Int.mul_sub, ← Int.mul_sub, ← Int.mul_add]; congr 1; omega
      rw [this]; omega
theorem minus_start (xs ys : List Int) (n : Nat) : MinusIn xs ys (List.replicate n 0) n 0 0 :=
  ⟨by simp, fun j hj => by omega, fun j _ => Dc.getD_zeros _ j, Or.inl rfl, by rw [Dc.val_zeros]; simp [Dc.val]⟩
theorem minus_end (xs ys os : List Int) (n : Nat) (t : Int) (hx : xs.length = n) (hy : ys.length ≤ n) (hle : Dc.val ys ≤ Dc.val xs) (h : MinusIn xs ys os n n t) : Dc.Dig os ∧ Dc.val os = Dc.val xs - Dc.val ys := by
  obtain ⟨l, lo, hi, b, s⟩ := h
  have hd : Dc.Dig os := Dc.dig_of_getD fun i hi => lo i (by omega)
  have hv := Dc.val_lt os hd
  rw [List.take_of_length_le (by omega), List.take_of_length_le hy] at s
  rw [l] at hv
  refine ⟨hd, ?_⟩
  rcases b with b | b
  · rw [s, b]; omega
  · rw [b] at s; omega
theorem len_le (xs ys : List Int) (dx : Dc.Dig xs) (dy : Dc.Dig ys) (cy : Dc.Cn ys) (h : Dc.val ys ≤ Dc.val xs) : ys.length ≤ xs.length := by
  rcases Nat.lt_or_ge xs.length ys.length with h1 | h1
  · have := Dc.lt_of_len xs ys dx dy cy h1; omega
  · exact h1

set_option maxRecDepth 100000 in
set_option maxHeartbeats 8000000 in
theorem minus_ref (va vb : Value) (xs ys : List Int) (w : World) (hx : xs.length ≤ 900) (hva : Arr w va xs) (hvb : Arr w vb ys) (dx : Dc.Dig xs) (dy : Dc.Dig ys) (cy : Dc.Cn ys) (hle : Dc.val ys ≤ Dc.val xs) :
    Calls Tryz.prog 170 #[va, vb] w fun e w' => NumPost (Dc.val xs - Dc.val ys) xs.length w e w' := by
  obtain ⟨i0, hi, hz0, hz1, hz2⟩ := info_parts info3
  have hll := len_le xs ys dx dy cy hle
  obtain ⟨xa, capa, rfl, hoa⟩ := arr_open hva
  obtain ⟨xb, capb, rfl, hob⟩ := arr_open hvb
  obtain ⟨la, hla⟩ : ∃ la, xs.length = la := ⟨_, rfl⟩
  obtain ⟨lb, hlb⟩ : ∃ lb, ys.length = lb := ⟨_, rfl⟩
  rw [hla] at hx hoa hll ⊢
  rw [hlb] at hob hll ⊢
  have HLA := hide hla
  have HLB := hide hlb
  have HOA := hide hoa
  have HOB := hide hob
  have HLE := hide hle
  have HDX := hide (And.intro dx dy)
  clear hva hvb hla hlb hoa hob dx dy hle cy
  go_enter Tryz.func170, Tryz.ntmps170
  go_wp2_with (first
    | (at_make; refine wpList_make_full _ rfl _ _ 49 rfl w.heap.size 3 i0 (.int .i64 0) 1 Tryz.underlying49 hi hz0 hz1 _ _ _ _ la rfl rfl rfl rfl (by rw [hz2]; omega) (by unfold maxLen; omega) (Nat.le_refl _) ?_)
    | go_in)
  intro w1 hown hgrow
  have HB : Hid (Below w.heap.size w w1) := hide ((Below.refl _ _).grown hgrow (Nat.le_refl _) (fun k hk => by cases hk))
  have HO : Hid (w1.ownsRow w.heap.size 3 1 (.slice (some ⟨w.heap.size, 0, none⟩) la la) la ((List.replicate la (0 : Int)).map (Value.int .i64))) := hide (by
    have := made_map la
    rw [Nat.mul_one] at this
    rw [← this]; exact hown)
  clear hown hgrow hi hz0 hz1 hz2
  go_wp2
  go_loopw [6, 7] (fun b t wr => ∃ (k : Nat) (c : Int) (os : List Int), b = .int .i64 c ∧ t = .int .i64 (k : Int) ∧ k ≤ la ∧ 0 ≤ c ∧ c ≤ 1 ∧ Hid (wr.ownsRow w.heap.size 3 1 (.slice (some ⟨w.heap.size, 0, none⟩) la la) la (os.map (Value.int .i64))) ∧ Hid (Below w.heap.size w wr) ∧ Hid (MinusIn xs ys os la k c)) (fun _ t _ => la - (intOf t).toNat)
  case atStart => exact ⟨0, 0, _, rfl, rfl, Nat.zero_le _, by omega, by omega, HO, HB, hide (minus_start xs ys la)⟩
  case round =>
    clear HO HB
    obtain ⟨k, c, os, rfl, rfl, hk, hc0, hc1, HO, HB, HI⟩ := hrel
    by_cases hkl : k < la
    · have c0 := owns_cell (unhide HO) k hkl
      have f0 := (unhide HO).frozenAt k
      obtain ⟨ba, oa, rfl, ba1, ca⟩ := unhide HOA (by omega)
      have ca := ca k hkl
      rw [← (unhide HB).cell (p := ⟨ba, oa + k, none⟩) ba1] at ca
      have sx := (unhide HDX).1.getD k
      have sy := (unhide HDX).2.getD k
      have MS := minus_step xs ys os la k c hkl (unhide HDX).1 (unhide HDX).2 (unhide HI)
      obtain ⟨p, hp⟩ : ∃ p, os.getD k 0 = p := ⟨_, rfl⟩
      obtain ⟨x, hx0⟩ : ∃ x, xs.getD k 0 = x := ⟨_, rfl⟩
      obtain ⟨y, hy0⟩ : ∃ y, ys.getD k 0 = y := ⟨_, rfl⟩
      rw [hp] at c0
      rw [hx0] at ca sx
      rw [hy0] at sy
      rw [hx0, hy0] at MS
      have HY := hide hy0
      have MS := hide MS
      obtain ⟨x1, x2⟩ := sx
      obtain ⟨y1, y2⟩ := sy
      clear hp hx0 hy0
      by_cases hkb : k < lb
      · obtain ⟨bb, ob, rfl, bb1, cb⟩ := unhide HOB (by omega)
        have cb := cb k hkb
        rw [unhide HY, ← (unhide HB).cell (p := ⟨bb, ob + k, none⟩) bb1] at cb
        by_cases hs : x - c - y < 0
        · have HO4 := hide (owns_set (unhide HO) k (x - c - y + 10))
          have HB4 := hide ((unhide HB).setCell (p := ⟨w.heap.size, k, none⟩) (Nat.le_refl _) (.int .i64 (x - c - y + 10)))
          have PD := hide ((unhide MS).2 hs)
          go_wp2
          go_roundw
          case rel => exact ⟨k + 1, 1, _, rfl, by go_num, by omega, by omega, by omega, HO4, HB4, PD⟩
          case measure => simp [intOf]; omega
        · have HO4 := hide (owns_set (unhide HO) k (x - c - y))
          have HB4 := hide ((unhide HB).setCell (p := ⟨w.heap.size, k, none⟩) (Nat.le_refl _) (.int .i64 (x - c - y)))
          have PD := hide ((unhide MS).1 (by omega))
          go_wp2
          go_roundw
          case rel => exact ⟨k + 1, 0, _, rfl, by go_num, by omega, by omega, by omega, HO4, HB4, PD⟩
          case measure => simp [intOf]; omega
      · have hy0 : y = 0 := by rw [← unhide HY, List.getD_eq_getElem?_getD, List.getElem?_eq_none (by have := unhide HLB; omega)]; rfl
        have ev : x - c - y = x - c := by omega
        have MS := unhide MS
        rw [ev] at MS
        have MS := hide MS
        clear ev hy0
        by_cases hs : x - c < 0
        · have HO4 := hide (owns_set (unhide HO) k (x - c + 10))
          have HB4 := hide ((unhide HB).setCell (p := ⟨w.heap.size, k, none⟩) (Nat.le_refl _) (.int .i64 (x - c + 10)))
          have PD := hide ((unhide MS).2 hs)
          go_wp2
          go_roundw
          case rel => exact ⟨k + 1, 1, _, rfl, by go_num, by omega, by omega, by omega, HO4, HB4, PD⟩
          case measure => simp [intOf]; omega
        · have HO4 := hide (owns_set (unhide HO) k (x - c))
          have HB4 := hide ((unhide HB).setCell (p := ⟨w.heap.size, k, none⟩) (Nat.le_refl _) (.int .i64 (x - c)))
          have PD := hide ((unhide MS).1 (by omega))
          go_wp2
          go_roundw
          case rel => exact ⟨k + 1, 0, _, rfl, by go_num, by omega, by omega, by omega, HO4, HB4, PD⟩
          case measure => simp [intOf]; omega
    · have hk1 : k = la := by omega
      subst hk1
      obtain ⟨d1, d2⟩ := minus_end xs ys os k c (unhide HLA) (by have := unhide HLB; omega) (unhide HLE) (unhide HI)
      have hol : os.length = k := (unhide HI).len
      have HD := hide (And.intro d1 (And.intro d2 hol))
      clear d1 d2 hol
      go_wp2_with fail
      refine (trim_any _ os _ (by have := (unhide HD).2.2; omega) (arr_of_owns (unhide HD).2.2.symm (unhide HO))).mono ?_
      intro e w5 hp
      obtain ⟨rfl, v', us, rfl, q1, q2, q3, q4, q5⟩ := trim_num (unhide HD).1 hp
      have Q := hide (And.intro q1 (And.intro q2 (And.intro q3 (And.intro q4 q5))))
      clear q1 q2 q3 q4 q5 hp
      go_wp2
      go_ret
      obtain ⟨q1, q2, q3, q4, q5⟩ := unhide Q
      exact ⟨unhide HB, v', us, rfl, q1, q2, q3, by rw [q4]; exact (unhide HD).2.1, by have := (unhide HD).2.2; omega, q5.2 _ (fr_of_owns (unhide HO))⟩
end Go.Proofs.YtbeijnflfmjgfaaGreatDoor

namespace Go.Proofs.YtbeijnflfmjgfaaGreatDoor
open Go.RowKit

theorem owns_below {w w' : World} {B n : Nat} {v : Value} {xs : List Value} (h : w.ownsRow B 3 1 v n xs) (hb : Below w.heap.size w w') : w'.ownsRow B 3 1 v n xs := by
  obtain ⟨h1, h2⟩ := h
  refine ⟨h1, ?_⟩
  rcases h2 with h2 | ⟨g, cap, cur, e, hg, hh, r1, r2, r3, r4⟩
  · exact Or.inl h2
  · have hlt : g < w.heap.size := by
      rcases Nat.lt_or_ge g w.heap.size with h' | h'
      · exact h'
      · rw [Array.getElem?_eq_none h'] at hh; cases hh
    exact Or.inr ⟨g, cap, cur, e, hg, by rw [hb.block g hlt]; exact hh, r1, r2, r3, r4⟩

theorem owns_lt {w : World} {B g n cap : Nat} {xs : List Value} (h : w.ownsRow B 3 1 (.slice (some ⟨g, 0, none⟩) n cap) n xs) : g < w.heap.size := by
  rcases h.2 with ⟨e, _⟩ | ⟨g', cap', cur, e, hg, hh, _⟩
  · cases e
  · injection e with e1
    injection e1 with e1
    injection e1 with e1
    subst e1
    rcases Nat.lt_or_ge g w.heap.size with h' | h'
    · exact h'
    · rw [Array.getElem?_eq_none h'] at hh; cases hh
theorem arr_set {w : World} {v : Value} {zs : List Int} {B j : Nat} {u : Value} (h : Arr w v zs) (hf : Fr (B + 1) v) : Arr (w.setCell ⟨B, j, none⟩ u) v zs := by
  rcases h with h | ⟨b, o, cap, rfl, hc, hlt, hcell⟩
  · exact Or.inl h
  · have hb := hf b o _ cap rfl
    refine Or.inr ⟨b, o, cap, rfl, hc, by simpa using hlt, fun i hi => ?_⟩
    rw [World.cell?_setCell_other _ _ _ _ (by intro h; injection h with h1; omega)]
    exact hcell i hi
theorem fr_mono {A B : Nat} {v : Value} (h : Fr A v) (hab : B ≤ A) : Fr B v := fun b o n cap e => Nat.le_trans hab (h b o n cap e)

structure OverIn (xs ys os rs : List Int) (la k : Nat) : Prop where
  len : os.length = la
  zero : ∀ j, j < k → os.getD j 0 = 0
  dig : ∀ j, 0 ≤ os.getD j 0 ∧ os.getD j 0 ≤ 9
  sum : Dc.val (xs.drop k) = Dc.val (os.drop k) * Dc.val ys + Dc.val rs
  rlt : Dc.val rs < Dc.val ys
  rd : Dc.Dig rs
  rc : Dc.Cn rs
theorem over_start (xs ys : List Int) (la : Nat) (hx : xs.length ≤ la) (hy : 0 < Dc.val ys) : OverIn xs ys (List.replicate la 0) [] la la :=
  ⟨by simp, fun j _ => Dc.getD_zeros _ j, fun j => by rw [Dc.getD_zeros]; omega, by rw [List.drop_of_length_le hx, List.drop_of_length_le (by simp)]; simp [Dc.val], by simpa [Dc.val] using hy, fun x hx => by simp at hx, fun x l' e => by simp at e⟩
theorem over_step (xs ys os rs rs' : List Int) (la k : Nat) (c : Int) (h0 : 0 < k) (hk : k ≤ la) (hx : xs.length = la) (h : OverIn xs ys os rs la k)
    (hc : 0 ≤ c ∧ c ≤ 9) (hs : Dc.val rs' + c * Dc.val ys = xs.getD (k - 1) 0 + 10 * Dc.val rs) (hlt : Dc.val rs' < Dc.val ys) (rd : Dc.Dig rs') (rc : Dc.Cn rs') : OverIn xs ys (os.set (k - 1) c) rs' la (k - 1) := by
  obtain ⟨l, z, d, s, _, _, _⟩ := h
  refine ⟨by simpa using l, fun j hj => ?_, fun j => ?_, ?_, hlt, rd, rc⟩
  · rw [Dc.getD_set _ _ _ _ (by omega), if_neg (by omega)]; exact z j (by omega)
  · rw [Dc.getD_set _ _ _ _ (by omega)]
    split
    · exact hc
    · exact d j
  · rw [val_drop xs k h0 (by omega), s]
    have e : (os.set (k - 1) c).drop (k - 1) = c :: os.drop k := by
      rw [drop_pred (os.set (k - 1) c) k h0 (by simp; omega), Dc.getD_set _ _ _ _ (by omega), if_pos rfl, List.drop_set_of_lt (by omega)]
    rw [e]
    show _ = (c + 10 * Dc.val (os.drop k)) * Dc.val ys + Dc.val rs'
    rw [Int.add_mul, Int.mul_assoc]
    omega
theorem set_self (os : List Int) (i : Nat) (hi : i < os.length) (h : os.getD i 0 = 0) : os.set i 0 = os := by
  apply List.ext_getElem?
  intro j
  rw [List.getElem?_set]
  by_cases hj : i = j
  · subst hj
    rw [if_pos rfl, if_pos hi]
    rw [List.getD_eq_getElem?_getD, List.getElem?_eq_getElem hi] at h
    rw [List.getElem?_eq_getElem hi]
    exact congrArg some h.symm
  · rw [if_neg hj]
theorem over_nine (y x r s c : Int) (hy : 0 < y) (hx : x ≤ 9) (hr : r < y) (hs0 : y ≤ s) (hs : s + c * y = x + 10 * r) : c + 1 ≤ 9 := by
  rcases Int.lt_or_le 8 c with h | h
  · exfalso
    have : 9 * y ≤ c * y := Int.mul_le_mul_of_nonneg_right (by omega) (by omega)
    omega
  · omega

def cellInt (w : World) (a : Addr) : Int := match w.cell? a with
  | some (.int _ n) => n
  | _ => 0

def OverPost (xs ys : List Int) (w : World) (e : Ending) (w' : World) : Prop :=
  Below w.heap.size w w' ∧ ∃ vq vr qs rs, e = .returned (.tuple #[vq, vr]) ∧ Arr w' vq qs ∧ Arr w' vr rs ∧ Dc.Dig qs ∧ Dc.Cn qs ∧ Dc.Dig rs ∧ Dc.Cn rs ∧ Dc.val xs = Dc.val qs * Dc.val ys + Dc.val rs ∧ Dc.val rs < Dc.val ys ∧ qs.length ≤ xs.length ∧ rs.length ≤ ys.length ∧ Fr w.heap.size vq

set_option maxRecDepth 100000 in
set_option maxHeartbeats 8000000 in
theorem over_ref (va vb : Value) (xs ys : List Int) (w : World) (hx : xs.length ≤ 200) (hy : ys.length ≤ 200) (hva : Arr w va xs) (hvb : Arr w vb ys) (dx : Dc.Dig xs) (dy : Dc.Dig ys) (cy : Dc.Cn ys) (hpos : 0 < Dc.val ys) :
    Calls Tryz.prog 131 #[va, vb] w fun e w' => OverPost xs ys w e w' := by
  obtain ⟨i0, hi, hz0, hz1, hz2⟩ := info_parts info3
  have HVB := hide hvb
  obtain ⟨xa, capa, rfl, hoa⟩ := arr_open hva
  obtain ⟨la, hla⟩ : ∃ la, xs.length = la := ⟨_, rfl⟩
  rw [hla] at hx hoa ⊢
  have HLA := hide hla
  have HOA := hide hoa
  have HPOS := hide hpos
  have HDX := hide (And.intro dx (And.intro dy cy))
  clear hva hvb hla hoa dx dy cy hpos
  go_enter Tryz.func131, Tryz.ntmps131
  go_wp2_with (first
    | (at_make; refine wpList_make_full _ rfl _ _ 49 rfl w.heap.size 3 i0 (.int .i64 0) 1 Tryz.underlying49 hi hz0 hz1 _ _ _ _ la rfl rfl rfl rfl (by rw [hz2]; omega) (by unfold maxLen; omega) (Nat.le_refl _) ?_)
    | go_in)
  intro w1 hown hgrow
  have HB : Hid (Below w.heap.size w w1) := hide ((Below.refl _ _).grown hgrow (Nat.le_refl _) (fun k hk => by cases hk))
  have HO : Hid (w1.ownsRow w.heap.size 3 1 (.slice (some ⟨w.heap.size, 0, none⟩) la la) la ((List.replicate la (0 : Int)).map (Value.int .i64))) := hide (by
    have := made_map la
    rw [Nat.mul_one] at this
    rw [← this]; exact hown)
  clear hown hgrow
  go_wp2
  go_loopw [7, 8] (fun vr t wr => ∃ (k : Nat) (os rs : List Int), t = .int .i64 ((k : Int) - 1) ∧ k ≤ la ∧ Hid (Arr wr vr rs) ∧ Hid (wr.ownsRow w.heap.size 3 1 (.slice (some ⟨w.heap.size, 0, none⟩) la la) la (os.map (Value.int .i64))) ∧ Hid (Below w.heap.size w wr) ∧ Hid (OverIn xs ys os rs la k)) (fun _ t _ => (intOf t + 1).toNat)
  case atStart => exact ⟨la, _, [], rfl, Nat.le_refl _, hide (Or.inl ⟨rfl, none, 0, rfl⟩), HO, HB, hide (over_start xs ys la (by have := unhide HLA; omega) (unhide HPOS))⟩
  case round =>
    clear HO HB
    obtain ⟨k, os, rs, rfl, hk, HR, HO, HB, HI⟩ := hrel
    obtain ⟨wo, rfl⟩ : ∃ wo, wo = wr := ⟨_, rfl⟩
    rcases Nat.eq_zero_or_pos k with hk0 | hk0
    · subst hk0
      have hol : os.length = la := (unhide HI).len
      have hod : Dc.Dig os := Dc.dig_of_getD fun j _ => (unhide HI).dig j
      have HOD := hide (And.intro hol hod)
      clear hol hod
      go_wp2_with fail
      refine (trim_any _ os _ (by have := (unhide HOD).1; omega) (arr_of_owns (unhide HOD).1.symm (unhide HO))).mono ?_
      intro e w5 hp
      obtain ⟨rfl, v', us, rfl, q1, q2, q3, q4, q5⟩ := trim_num (unhide HOD).2 hp
      have Q := hide (And.intro q1 (And.intro q2 (And.intro q3 (And.intro q4 q5))))
      clear q1 q2 q3 q4 q5 hp
      go_wp2
      go_ret2
      obtain ⟨q1, q2, q3, q4, q5⟩ := unhide Q
      have s := (unhide HI).sum
      rw [List.drop_zero, List.drop_zero] at s
      exact ⟨unhide HB, v', _, us, rs, rfl, q1, unhide HR, q2, q3, (unhide HI).rd, (unhide HI).rc, by rw [q4]; exact s, (unhide HI).rlt, by have := unhide HLA; have := (unhide HOD).1; omega, len_le ys rs (unhide HDX).2.1 (unhide HI).rd (unhide HI).rc (by have := (unhide HI).rlt; omega), q5.2 _ (fr_of_owns (unhide HO))⟩
    · have hk1 : (1 : Int) ≤ (k : Int) := by omega
      obtain ⟨ba, oa, rfl, ba1, ca⟩ := unhide HOA (by omega)
      have ca := ca (k - 1) (by omega)
      rw [← (unhide HB).cell (p := ⟨ba, oa + (k - 1), none⟩) ba1] at ca
      have sx := (unhide HDX).1.getD (k - 1)
      obtain ⟨x, hx0⟩ : ∃ x, xs.getD (k - 1) 0 = x := ⟨_, rfl⟩
      rw [hx0] at ca sx
      obtain ⟨x1, x2⟩ := sx
      have HX := hide hx0
      have ek : ((k : Int) - 1).toNat = k - 1 := by omega
      have hrl : rs.length ≤ ys.length := len_le ys rs (unhide HDX).2.1 (unhide HI).rd (unhide HI).rc (by have := (unhide HI).rlt; omega)
      obtain ⟨xr, capr, rfl, hor⟩ := arr_open (unhide HR)
      obtain ⟨lr, hlr⟩ : ∃ lr, rs.length = lr := ⟨_, rfl⟩
      rw [hlr] at hor hrl ⊢
      have HLR := hide hlr
      have HOR := hide hor
      clear hx0 hor hlr
      have hlr2 : lr ≤ 200 := by omega
      go_wp2
      go_loopw [9, 10] (fun v t wr => ∃ (m : Nat) (ns : List Int), t = .int .i64 (m : Int) ∧ m ≤ lr ∧ wr.ownsRow wo.heap.size 3 1 v ns.length (ns.map (Value.int .i64)) ∧ Hid (Below wo.heap.size wo wr) ∧ Hid (ns = x :: rs.take m)) (fun _ t _ => lr - (intOf t).toNat)
      case atStart => exact ⟨0, [x], rfl, Nat.zero_le _, World.ownsRow_lit wo #[.int .i64 x] 1 (Nat.le_refl _) (by unfold maxLen; omega) rfl, hide ((Below.refl _ _).alloc (Nat.le_refl _) _), hide rfl⟩
      case round =>
        obtain ⟨m, ns, rfl, hm, hown, HBn, HNS⟩ := hrel
        obtain ⟨wp, rfl⟩ : ∃ wp, wp = wr := ⟨_, rfl⟩
        have hnl : ns.length ≤ m + 1 := by rw [unhide HNS, List.length_cons, List.length_take]; omega
        by_cases hml : m < lr
        · obtain ⟨br, orr, rfl, br1, cr⟩ := unhide HOR (by omega)
          have cr := cr m hml
          rw [← (unhide HBn).cell (p := ⟨br, orr + m, none⟩) br1] at cr
          obtain ⟨y, hy0⟩ : ∃ y, rs.getD m 0 = y := ⟨_, rfl⟩
          rw [hy0] at cr
          have HY := hide hy0
          have HOW := hide hown
          clear hy0 hown
          go_wp2_with (first
            | (at_builtin; refine wpList_append_own _ rfl _ _ 49 rfl wo.heap.size 3 i0 (.int .i64 0) 1 8 Tryz.underlying49 hi hz0 hz1 hz2 rfl (by decide) _ _ _ rfl ((unhide HOW).alloc _) ⟨wp.heap.size, 0, none⟩ 1 1 [.int .i64 y] rfl rfl (one_cell _ _ _) (one_one _) (by unfold maxLen; omega) (by omega) (by have := (unhide HBn).size; simp; omega) ?_)
            | go_in)
          intro v' w2 hown' hgrow _
          have R := hide (own_step (unhide HBn) (unhide HBn).size (unhide HOW) hown' hgrow)
          clear hown' hgrow
          go_wp2
          go_roundw
          case rel => exact ⟨m + 1, ns ++ [y], by go_num, by omega, (unhide R).1, hide (unhide R).2, hide (by
            rw [unhide HNS, List.take_succ_eq_append_getElem (by have := unhide HLR; omega), List.cons_append]
            congr 2
            have := unhide HY
            rw [List.getD_eq_getElem?_getD, List.getElem?_eq_getElem (by have := unhide HLR; omega)] at this
            simpa using this.symm)⟩
          case measure => simp [intOf]; omega
        · have hm' : m = lr := by omega
          subst hm'
          have ens : ns = x :: rs := by rw [unhide HNS, List.take_of_length_le (by have := unhide HLR; omega)]
          have hnd : Dc.Dig ns := by
            rw [ens]
            intro z hz
            rcases List.mem_cons.1 hz with h | h
            · rw [h]; exact ⟨x1, x2⟩
            · exact (unhide HI).rd z h
          have hnv : Dc.val ns = x + 10 * Dc.val rs := by rw [ens]; rfl
          have HNV := hide (And.intro hnd (And.intro hnv hown))
          clear ens hnd hnv
          go_wp2_with fail
          refine (trim_any _ ns _ (by omega) (arr_of_owns rfl (unhide HNV).2.2)).mono ?_
          intro e w5 hp
          obtain ⟨rfl, v', us, rfl, q1, q2, q3, q4, q5⟩ := trim_num (unhide HNV).1 hp
          have Q : Hid (Arr w5 v' us ∧ Dc.Dig us ∧ Dc.Cn us ∧ Dc.val us = x + 10 * Dc.val rs ∧ us.length ≤ m + 1) := hide ⟨q1, q2, q3, by rw [q4]; exact (unhide HNV).2.1, by omega⟩
          have hwo := below_next (unhide HB) (unhide HBn)
          have HB2 := hide hwo
          have HO2 := hide (owns_below (unhide HO) (unhide HBn))
          clear q1 q2 q3 q4 q5 hp hwo hown HNV HNS
          have HV5 := hide ((unhide HVB).below (Nat.le_refl _) (unhide HB2))
          go_wp2_with fail
          refine (below_any _ _ us ys _ (by have := (unhide Q).2.2.2.2; omega) (by omega) (unhide Q).1 (unhide HV5) (unhide Q).2.1 (unhide HDX).2.1 (unhide Q).2.2.1 (unhide HDX).2.2).mono ?_
          rintro e w6 ⟨rfl, b6⟩
          have Q6 : Hid (Arr w6 v' us ∧ Dc.Dig us ∧ Dc.Cn us ∧ Dc.val us + 0 * Dc.val ys = x + 10 * Dc.val rs ∧ us.length ≤ 900) := hide ⟨(unhide Q).1.below (Nat.le_refl _) b6, (unhide Q).2.1, (unhide Q).2.2.1, by have := (unhide Q).2.2.2.1; omega, by have := (unhide Q).2.2.2.2; omega⟩
          have HO6 := hide (owns_below (unhide HO2) b6)
          have HB6 := hide (below_next (unhide HB2) b6)
          have hkl : k - 1 < la := by omega
          have hos : os.set (k - 1) 0 = os := set_self os (k - 1) (by have := (unhide HI).len; omega) ((unhide HI).zero (k - 1) (by omega))
          have HOS := hide hos
          clear b6 HO2 HB2 HBn Q hos
          go_wp2
          go_loopw [7, 11] (fun v l wr => ∃ (c : Int) (us : List Int), l = .bool (decide (Dc.val us < Dc.val ys)) ∧ 0 ≤ c ∧ c ≤ 9 ∧ Hid (Arr wr v us ∧ Dc.Dig us ∧ Dc.Cn us ∧ Dc.val us + c * Dc.val ys = x + 10 * Dc.val rs ∧ us.length ≤ 900) ∧
              Hid (wr.ownsRow w.heap.size 3 1 (.slice (some ⟨w.heap.size, 0, none⟩) la la) la ((os.set (k - 1) c).map (Value.int .i64))) ∧ Hid (Below w.heap.size w wr)) (fun _ _ wr => (9 - cellInt wr ⟨w.heap.size, k - 1, none⟩).toNat)
          case atStart => exact ⟨0, us, rfl, by omega, by omega, Q6, hide (by rw [unhide HOS]; exact unhide HO6), HB6⟩
          case round =>
            clear Q6 HO6 HB6 HO HB HR
            obtain ⟨c, us, rfl, hc0, hc9, QU, HO, HB⟩ := hrel
            obtain ⟨wp, rfl⟩ : ∃ wp, wp = wr := ⟨_, rfl⟩
            by_cases hlt : Dc.val us < Dc.val ys
            · rw [decide_eq_true hlt]
              have OS := hide (over_step xs ys os rs us la k c hk0 hk (unhide HLA) (unhide HI) ⟨hc0, hc9⟩ (by rw [unhide HX]; exact (unhide QU).2.2.2.1) hlt (unhide QU).2.1 (unhide QU).2.2.1)
              clear hlt
              go_wp2
              go_roundw
              case rel => exact ⟨k - 1, _, us, int_eqv (by omega), by omega, hide (unhide QU).1, HO, HB, OS⟩
              case measure => simp [intOf]; omega
            · rw [decide_eq_false hlt]
              have HLT := hide hlt
              have hc8 : c + 1 ≤ 9 := over_nine (Dc.val ys) x (Dc.val rs) (Dc.val us) c (unhide HPOS) x2 (unhide HI).rlt (by omega) (unhide QU).2.2.2.1
              have c0 := owns_cell (unhide HO) (k - 1) hkl
              rw [Dc.getD_set _ _ _ _ (by have := (unhide HI).len; omega), if_pos rfl] at c0
              clear hlt
              go_wp2_with fail
              refine (minus_ref _ _ us ys _ (unhide QU).2.2.2.2 (unhide QU).1 ((unhide HVB).below (Nat.le_refl _) (unhide HB)) (unhide QU).2.1 (unhide HDX).2.1 (unhide HDX).2.2 (by have := unhide HLT; omega)).mono ?_
              rintro e w7 ⟨b7, v7, zs, rfl, z1, z2, z3, z4, z5⟩
              have Z := hide (And.intro z1 (And.intro z2 (And.intro z3 (And.intro z4 z5))))
              have HO7 := hide (owns_below (unhide HO) b7)
              have HB7 := hide (below_next (unhide HB) b7)
              have c7 := owns_cell (unhide HO7) (k - 1) hkl
              have f7 := (unhide HO7).frozenAt (k - 1)
              rw [Dc.getD_set _ _ _ _ (by have := (unhide HI).len; omega), if_pos rfl] at c7
              have hs7 := (unhide HB7).size
              have hm0 : Hid (cellInt wp ⟨w.heap.size, k - 1, none⟩ = c) := hide (by unfold cellInt; rw [c0])
              have B7 := hide b7
              clear z1 z2 z3 z4 z5 b7 c0
              have hltB := owns_lt (unhide HO)
              have HA8 : Hid (Arr (w7.setCell ⟨w.heap.size, k - 1, none⟩ (.int .i64 (c + 1))) v7 zs) := hide (arr_set (unhide Z).1 (fr_mono (unhide Z).2.2.2.2.2 hltB))
              have HO8 : Hid ((w7.setCell ⟨w.heap.size, k - 1, none⟩ (.int .i64 (c + 1))).ownsRow w.heap.size 3 1 (.slice (some ⟨w.heap.size, 0, none⟩) la la) la ((os.set (k - 1) (c + 1)).map (Value.int .i64))) := hide (by
                have := owns_set (unhide HO7) (k - 1) (c + 1)
                rw [List.set_set] at this
                exact this)
              have HB8 := hide ((unhide HB7).setCell (p := ⟨w.heap.size, k - 1, none⟩) (Nat.le_refl _) (.int .i64 (c + 1)))
              go_wp2_with fail
              generalize w7.setCell ⟨w.heap.size, k - 1, none⟩ (.int .i64 (c + 1)) = w8 at *
              refine (below_any _ _ zs ys _ (by have := (unhide Z).2.2.2.2; have := (unhide QU).2.2.2.2; omega) (by omega) (unhide HA8) ((unhide HVB).below (Nat.le_refl _) (unhide HB8)) (unhide Z).2.1 (unhide HDX).2.1 (unhide Z).2.2.1 (unhide HDX).2.2).mono ?_
              rintro e w9 ⟨rfl, b9⟩
              have HO9 := hide (owns_below (unhide HO8) b9)
              have HM9 : Hid (cellInt w9 ⟨w.heap.size, k - 1, none⟩ = c + 1) := hide (by
                have c9 := owns_cell (unhide HO9) (k - 1) hkl
                rw [Dc.getD_set _ _ _ _ (by have := (unhide HI).len; omega), if_pos rfl] at c9
                unfold cellInt; rw [c9])
              have HB9 := hide (below_next (unhide HB8) b9)
              have Q9 : Hid (Arr w9 v7 zs ∧ Dc.Dig zs ∧ Dc.Cn zs ∧ Dc.val zs + (c + 1) * Dc.val ys = x + 10 * Dc.val rs ∧ zs.length ≤ 900) := hide ⟨(unhide HA8).below (Nat.le_refl _) b9, (unhide Z).2.1, (unhide Z).2.2.1, by
                have := (unhide QU).2.2.2.1
                rw [(unhide Z).2.2.2.1, Int.add_mul]; omega, by have := (unhide Z).2.2.2.2; have := (unhide QU).2.2.2.2; omega⟩
              clear b9 c7 f7
              go_wp2
              go_roundw
              case rel => exact ⟨c + 1, zs, rfl, by omega, by omega, Q9, HO9, HB9⟩
              case measure =>
                rw [unhide HM9, unhide hm0]
                omega
end Go.Proofs.YtbeijnflfmjgfaaGreatDoor
