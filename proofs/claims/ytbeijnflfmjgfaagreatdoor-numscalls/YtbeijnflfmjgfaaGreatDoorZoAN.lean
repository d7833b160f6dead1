/- The law's list: rows of the program's and of the reference's values. -/
import Derived.BigQuiet
import Derived.BigRegion
import Derived.Carry
import Derived.Deep.AppendLies
import Derived.Deep.CutBlock
import Derived.Deep.CutRange
import Derived.Deep.DeepFit
import Derived.Deep.DeepHandedRow
import Derived.Deep.QuietTactic
import Derived.Deep.RegionHeld3
import Derived.Deep.RegionWith
import Derived.Deep.Slices
import Derived.Deep.WholeRow
import Derived.LaidSub
import Derived.Laws.Bits64b
import Derived.Laws.BitsAllLaws
import Derived.Laws.CopyOwn
import Derived.Laws.FloatArith
import Derived.Laws.IdiomStrings
import Derived.Laws.OwnMore
import Derived.Laws.Rows
import Derived.Laws.StructEq
import Derived.Laws.Tables
import Derived.Lay
import Derived.Lib.BitFns
import Derived.Lib.IndexBytes
import Derived.Lib.ItoaMem
import Derived.Lib.ItoaNum
import Derived.Lib.LaidTab
import Derived.Lib.TrimByte
import Derived.Lib.Walk
import Derived.OpenShut
import Derived.OwnWalk
import Derived.ProofKit
import Derived.SevenTiedAt
import Derived.Shelf.Bits.Mul64
import Derived.Shelf.LaysM
import Derived.Shelf.Small.Bits
import Derived.Shelf.Small.Strs
import Derived.Shelf.Small.Wraps
import Derived.Shelf.Strconv.Itoa0
import Derived.Shelf.Strconv.Itoa1
import Derived.Shelf.Strconv.Itoa2
import Derived.Shelf.Strings.AsciiSet
import Derived.Shelf.Strings.Cut
import Derived.Shelf.Strings.Prefix
import Derived.Shelf.Strings.Search1
import Derived.Shelf.Strings.Search2
import Derived.Shelf.Strings.Shaped
import Derived.Shelf.Strings.Trim
import Derived.Stop.Joined
import Derived.Test.YtbeijnflfmjgfaaGreatDoorCards
import Derived.Test.YtbeijnflfmjgfaaGreatDoorProg
import Derived.Test.YtbeijnflfmjgfaaGreatDoorRows
import Derived.Test.YtbeijnflfmjgfaaGreatDoorTie
import Derived.WalkKit
import Derived.WalkLawsBesides
import Derived.WalkSmall
import Derived.WalkSpells
import Ieee.Arith
import Derived.Test.YtbeijnflfmjgfaaGreatDoorZoAA
import Derived.Test.YtbeijnflfmjgfaaGreatDoorZoAB
import Derived.Test.YtbeijnflfmjgfaaGreatDoorZoAC
import Derived.Test.YtbeijnflfmjgfaaGreatDoorZoAD
import Derived.Test.YtbeijnflfmjgfaaGreatDoorZoAE
import Derived.Test.YtbeijnflfmjgfaaGreatDoorZoAF
import Derived.Test.YtbeijnflfmjgfaaGreatDoorZoAG
import Derived.Test.YtbeijnflfmjgfaaGreatDoorZoAH
import Derived.Test.YtbeijnflfmjgfaaGreatDoorZoAI
import Derived.Test.YtbeijnflfmjgfaaGreatDoorZoAJ
import Derived.Test.YtbeijnflfmjgfaaGreatDoorZoAK
import Derived.Test.YtbeijnflfmjgfaaGreatDoorZoAL
import Derived.Test.YtbeijnflfmjgfaaGreatDoorZoAM
namespace Go.Proofs.YtbeijnflfmjgfaaGreatDoor
open Go.RowKit


structure Mid9 (w : World) (B : Nat) (a b : Value) (xs ys : List Vl) : Prop where
  left : VRow 28 w B a xs
  right : VRow 29 w B b ys
  apart : Apart a b
theorem mid_drew {w : World} {B : Nat} {a b : Value} {xs ys : List Vl} (h : Mid9 w B a b xs ys) : Mid9 w.drew B a b xs ys := ⟨h.left, h.right, h.apart⟩
theorem mid_alloc {w : World} {B : Nat} {a b : Value} {xs ys : List Vl} (h : Mid9 w B a b xs ys) (o : Obj) : Mid9 (w.alloc o) B a b xs ys :=
  ⟨World.ownsRow.alloc h.left o, World.ownsRow.alloc h.right o, h.apart⟩
theorem mid_below {w w' : World} {B : Nat} {a b : Value} {xs ys : List Vl} (h : Mid9 w B a b xs ys) (hb : Below w.heap.size w w') : Mid9 w' B a b xs ys :=
  ⟨vrow_below h.left hb, vrow_below h.right hb, h.apart⟩
theorem own_left {w : World} {B : Nat} {a b : Value} {xs ys : List Vl} (h : Mid9 w B a b xs ys) : w.ownsRow B 28 5 a xs.length (flatV xs) := h.left
theorem own_right {w : World} {B : Nat} {a b : Value} {xs ys : List Vl} (h : Mid9 w B a b xs ys) : w.ownsRow B 29 5 b ys.length (flatV ys) := h.right
theorem mid_left {W wf : World} {B g cap : Nat} {a b : Value} {xs ys : List Vl} {X : Vl} (h : Mid9 W B a b xs ys)
    (hown : wf.ownsRow B 28 5 (.slice (some ⟨g, 0, none⟩) (xs.length + 1) cap) (xs.length + 1) (flatV xs ++ cellsL X)) (hg : W.grownBy wf a.ownBlock) (hat : a.ownBlock = some g ∨ g = W.heap.size) :
    Mid9 wf B (.slice (some ⟨g, 0, none⟩) (xs.length + 1) cap) b (xs ++ [X]) ys := by
  obtain ⟨h1, h2⟩ := other_stays (m := xs.length) (c := cap) h.right (apart_turn h.apart) hg hat
  refine ⟨?_, h1, apart_turn h2⟩
  unfold VRow
  rw [flatV_snoc, List.length_append, List.length_singleton]
  exact hown
theorem mid_right {W wf : World} {B g cap : Nat} {a b : Value} {xs ys : List Vl} {X : Vl} (h : Mid9 W B a b xs ys)
    (hown : wf.ownsRow B 29 5 (.slice (some ⟨g, 0, none⟩) (ys.length + 1) cap) (ys.length + 1) (flatV ys ++ cellsL X)) (hg : W.grownBy wf b.ownBlock) (hat : b.ownBlock = some g ∨ g = W.heap.size) :
    Mid9 wf B a (.slice (some ⟨g, 0, none⟩) (ys.length + 1) cap) xs (ys ++ [X]) := by
  obtain ⟨h1, h2⟩ := other_stays (m := ys.length) (c := cap) h.left h.apart hg hat
  refine ⟨h1, ?_, h2⟩
  unfold VRow
  rw [flatV_snoc, List.length_append, List.length_singleton]
  exact hown
def News (w : World) (B : Nat) (X : Vl) : Prop := ∀ j u, (cellsL X)[j]? = some u → w.cell? ((⟨B, 0, none⟩ : Addr).add j) = some u
theorem news_new (w : World) (T : TypeId) (X : Vl) : News (w.alloc (.cells #[.int .i64 X.kind, .int .i64 X.num, .string X.text, .bool X.tr, .int .i64 X.fail] T)) w.heap.size X := World.news_of_block (heap_alloc_new _ _)
theorem news_old (w : World) (T : TypeId) (X : Vl) (o : Obj) : News ((w.alloc (.cells #[.int .i64 X.kind, .int .i64 X.num, .string X.text, .bool X.tr, .int .i64 X.fail] T)).alloc o) w.heap.size X := World.news_of_block (heap_alloc2_old _ _ _)
theorem news_two (w : World) (T : TypeId) (X : Vl) (o : Obj) : News ((w.alloc o).alloc (.cells #[.int .i64 X.kind, .int .i64 X.num, .string X.text, .bool X.tr, .int .i64 X.fail] T)) (w.heap.size + 1) X := World.news_of_block (heap_alloc2_new _ _ _)
theorem news_drew {w : World} {B : Nat} {X : Vl} (h : News w B X) : News w.drew B X := h
theorem news_grown {w w' : World} {B : Nat} {X : Vl} {row : Option Nat} (h : News w B X) (hg : w.grownBy w' row) (hne : some B ≠ row) (hB : B < w.heap.size) : News w' B X := by
  intro j u hu
  have := h j u hu
  rw [hg.cell_far _ (by unfold Addr.add; split <;> exact hB) (by unfold Addr.add; split <;> exact hne)]
  exact this
theorem five_grown {w w' : World} {B : Nat} {T : TypeId} {cs : Array Value} {row : Option Nat} (h : FiveAt w B T cs) (hg : w.grownBy w' row) (hne : some B ≠ row) : FiveAt w' B T cs :=
  ⟨(hg.block B (five_lt h) hne).trans h.1, h.2⟩
theorem five_alloc {w : World} {B : Nat} {T : TypeId} {cs : Array Value} (h : FiveAt w B T cs) (o : Obj) : FiveAt (w.alloc o) B T cs := five_below h (below_al w o) (five_lt h)
theorem no_block {w : World} {T : TypeId} {B N : Nat} {v : Value} {xs : List Vl} (h : VRow T w B v xs) (hN : w.heap.size ≤ N) : some N ≠ v.ownBlock := by
  intro e
  have := (World.ownsRow.lt h N e.symm).2
  omega
theorem take_snoc9 {α : Type} {l zs : List α} {x : α} (h : zs = l.take zs.length) (hx : l[zs.length]? = some x) : zs ++ [x] = l.take (zs ++ [x]).length := by
  rw [List.length_append, List.length_singleton, List.take_add_one, hx, ← h]
  rfl
theorem cells_one (X : Vl) : ∀ u ∈ cellsL X, u.oneCell' = true := by
  intro u hu
  simp only [cellsL, List.mem_cons, List.not_mem_nil, or_false] at hu
  rcases hu with rfl | rfl | rfl | rfl | rfl <;> rfl
set_option maxRecDepth 100000 in
set_option maxHeartbeats 8000000 in
theorem list_law (v : Value) (xs : List Vl) (w : World) (hv : LValsAt w v xs) (hx : ∀ x ∈ xs, x.text.size ≤ maxLen) :
    Calls Tryz.prog 19 #[v] w fun e w' => ∃ a b, e = .returned (.tuple #[a, b]) ∧ Mid9 w' w.heap.size a b ((xs.take 40).map cutV) ((xs.take 40).map cutV) ∧ ((xs.take 40).map cutV = [] → a = .slice none 0 0 ∧ b = .slice none 0 0) ∧ Below w.heap.size w w' := by
  obtain ⟨iP, hP, hPz0, hPz1, hPz2⟩ := val_parts infoPV
  obtain ⟨iR, hR, hRz0, hRz1, hRz2⟩ := val_parts infoRV
  rcases lvals_open hv with ⟨rfl, ad, cap, rfl, hcap⟩ | ⟨b0, o0, cap, hpos, rfl, hlc, hcap, hb0, hc⟩
  · cases ad
    all_goals
      go_enter Tryz.func19, Tryz.ntmps19
      go_wp2_with fail
      go_loopw [16, 4, 5] (fun u a b wr => u = .int .i64 0 ∧ a = .slice none 0 0 ∧ b = .slice none 0 0 ∧ wr = w) (fun _ _ _ _ => 0)
      case atStart => exact ⟨rfl, rfl, rfl, rfl⟩
      case round =>
        obtain ⟨rfl, rfl, rfl, rfl⟩ := hrel
        go_wp2
        go_ret2
        exact ⟨_, _, rfl, ⟨(pair9_nil _ _).left, (pair9_nil _ _).right, Or.inl rfl⟩, fun _ => ⟨rfl, rfl⟩, Below.refl _ _⟩
  · obtain ⟨m, hm⟩ : ∃ m, min xs.length 40 = m := ⟨_, rfl⟩
    have hmi : min (xs.length : Int) 40 = (m : Int) := by omega
    have hm1 : m ≤ cap := by omega
    have hm2 : m ≤ 40 := by omega
    have hm3 : m ≤ xs.length := by omega
    have HC := hide hc
    have HX := hide hx
    obtain ⟨Z, hZ⟩ : ∃ Z, (xs.take 40).map cutV = Z := ⟨_, rfl⟩
    have HZ : Hid (∀ i x, i < m → xs[i]? = some x → Z[i]? = some (cutV x)) := hide (fun i x hi hx => by
      rw [← hZ, List.getElem?_map, List.getElem?_take, if_pos (by omega), hx]; rfl)
    have HZL : Hid (Z.length = m) := hide (by rw [← hZ, List.length_map, List.length_take, Nat.min_comm]; exact hm)
    rw [hZ]
    clear hZ hc hx hm hv
    have HLX := hide hm3
    clear hm3
    obtain ⟨L, hL⟩ : ∃ L, xs.length = L := ⟨_, rfl⟩
    rw [hL] at hmi hpos hlc ⊢
    rw [hL] at HLX
    have HL := hide hL
    clear hL
    go_enter Tryz.func19, Tryz.ntmps19
    go_wp2_with fail
    go_loopw [16, 4, 5] (fun u a b wr => ∃ zs : List Vl, u = .int .i64 (zs.length : Int) ∧ zs.length ≤ m ∧ Hid (zs = Z.take zs.length) ∧ Hid (Mid9 wr w.heap.size a b zs zs) ∧ Hid (zs = [] → a = .slice none 0 0 ∧ b = .slice none 0 0) ∧ Hid (Below w.heap.size w wr)) (fun u _ _ _ => m - (intOf u).toNat)
    case atStart => exact ⟨[], rfl, Nat.zero_le _, hide rfl, hide ⟨(pair9_nil _ _).left, (pair9_nil _ _).right, Or.inl rfl⟩, hide (fun _ => ⟨rfl, rfl⟩), hide (Below.refl _ _)⟩
    case round =>
      obtain ⟨zs, rfl, hzm, HT, HM, HNI, HB⟩ := hrel
      by_cases hlt : (zs.length : Int) < (m : Int)
      · obtain ⟨x, hx⟩ : ∃ x, xs[zs.length]? = some x := ⟨_, List.getElem?_eq_getElem (by rw [unhide HL]; have := unhide HLX; omega)⟩
        have hz := unhide HZ _ x (by omega) hx
        obtain ⟨c0, c1, c2, c3, c4⟩ := unhide HC _ x hx
        rw [← (unhide HB).cell (p := ⟨b0, o0 + zs.length * 5, none⟩) hb0] at c0
        rw [← (unhide HB).cell (p := ⟨b0, o0 + zs.length * 5 + 1, none⟩) hb0] at c1
        rw [← (unhide HB).cell (p := ⟨b0, o0 + zs.length * 5 + 2, none⟩) hb0] at c2
        rw [← (unhide HB).cell (p := ⟨b0, o0 + zs.length * 5 + 3, none⟩) hb0] at c3
        rw [← (unhide HB).cell (p := ⟨b0, o0 + zs.length * 5 + 4, none⟩) hb0] at c4
        have HV := hide (fun w => values9_law x w (unhide HX x (List.mem_of_getElem? hx)))
        obtain ⟨X, eX⟩ : ∃ X, cutV x = X := ⟨_, rfl⟩
        rw [eX] at HV hz
        have HT1 := hide (take_snoc9 (unhide HT) hz)
        unfold Vl.cells at HV
        clear eX hz HT hx
        go_upto_region 6 with fail
        have PX := hide (five_new wr 23 (.int .i64 x.kind) (.int .i64 x.num) (.string x.text) (.bool x.tr) (.int .i64 x.fail))
        have bb := below_al wr (.cells #[.int .i64 x.kind, .int .i64 x.num, .string x.text, .bool x.tr, .int .i64 x.fail] 23)
        replace HM := hide (mid_below (unhide HM) bb)
        replace HB := hide (below_nx (unhide HB) bb)
        clear bb c0 c1 c2 c3 c4
        generalize hW : wr.alloc (.cells #[.int .i64 x.kind, .int .i64 x.num, .string x.text, .bool x.tr, .int .i64 x.fail] 23) = w1 at PX HM HB ⊢
        clear hW
        obtain ⟨x_0, x_1, x_2, x_3, x_4⟩ := five_cells (unhide PX)
        go_wp2_with fail
        refine (unhide HV _).mono ?_
        rintro e w2 ⟨rfl, b2⟩
        replace HM := hide (mid_below (unhide HM) b2)
        replace HB := hide (below_nx (unhide HB) b2)
        clear b2 x_0 x_1 x_2 x_3 x_4 PX HV
        have NPa := hide (no_block (unhide HM).left (Nat.le_refl _))
        have NPb := hide (no_block (unhide HM).right (Nat.le_refl _))
        have NQa := hide (no_block (unhide HM).left (Nat.le_succ _))
        have NQb := hide (no_block (unhide HM).right (Nat.le_succ _))
        have P := hide (five_old w2 28 (.int .i64 X.kind) (.int .i64 X.num) (.string X.text) (.bool X.tr) (.int .i64 X.fail) (.cells #[.int .i64 X.kind, .int .i64 X.num, .string X.text, .bool X.tr, .int .i64 X.fail] 29))
        have Q := hide (five_new2 w2 (.cells #[.int .i64 X.kind, .int .i64 X.num, .string X.text, .bool X.tr, .int .i64 X.fail] 28) 29 (.int .i64 X.kind) (.int .i64 X.num) (.string X.text) (.bool X.tr) (.int .i64 X.fail))
        have bb := below_al2 w2 (.cells #[.int .i64 X.kind, .int .i64 X.num, .string X.text, .bool X.tr, .int .i64 X.fail] 28) (.cells #[.int .i64 X.kind, .int .i64 X.num, .string X.text, .bool X.tr, .int .i64 X.fail] 29)
        replace HM := hide (mid_below (unhide HM) bb)
        replace HB := hide (below_nx (unhide HB) bb)
        clear bb
        go_upto_region 7 with fail
        generalize hW : (w2.alloc (.cells #[.int .i64 X.kind, .int .i64 X.num, .string X.text, .bool X.tr, .int .i64 X.fail] 28)).alloc (.cells #[.int .i64 X.kind, .int .i64 X.num, .string X.text, .bool X.tr, .int .i64 X.fail] 29) = w3 at P Q HM HB ⊢
        clear hW
        clear HC HX HZ
        obtain ⟨p_0, p_1, p_2, p_3, p_4⟩ := five_cells (unhide P); obtain ⟨q_0, q_1, q_2, q_3, q_4⟩ := five_cells (unhide Q)
        have n_p := World.new_ne _ _ p_0
        have n_q := World.new_ne _ _ q_0
        have hzs : zs.length ≤ 40 := by omega
        go_region_held3 (fun w' => w'.cell? ⟨w2.heap.size, 0, none⟩ = some (.int .i64 X.kind) ∧ w'.cell? ⟨w2.heap.size, 1, none⟩ = some (.int .i64 X.num) ∧ w'.cell? ⟨w2.heap.size, 2, none⟩ = some (.string X.text) ∧ w'.cell? ⟨w2.heap.size, 3, none⟩ = some (.bool X.tr) ∧ w'.cell? ⟨w2.heap.size, 4, none⟩ = some (.int .i64 X.fail) ∧ w'.cell? ⟨w2.heap.size + 1, 0, none⟩ = some (.int .i64 X.kind) ∧ w'.cell? ⟨w2.heap.size + 1, 1, none⟩ = some (.int .i64 X.num) ∧ w'.cell? ⟨w2.heap.size + 1, 2, none⟩ = some (.string X.text) ∧ w'.cell? ⟨w2.heap.size + 1, 3, none⟩ = some (.bool X.tr) ∧ w'.cell? ⟨w2.heap.size + 1, 4, none⟩ = some (.int .i64 X.fail)) (go_keep)
          (first
            | (refine step_append_lies _ (by rfl) (.tmp 25) (.tmp 27) 44 (by rfl) w.heap.size 28 iP (.agg #[.int .i64 0, .int .i64 0, .string ⟨#[]⟩, .bool false, .int .i64 0]) 5 48 Tryz.underlying44 hP hPz0 hPz1 hPz2 (by rfl) (by decide) u4 zs.length (flatV zs) (by rfl) (by first | with_reducible exact own_left (unhide HM) | with_reducible exact own_left (mid_drew (mid_alloc (unhide HM) _)) | with_reducible exact own_left (mid_drew (mid_alloc (mid_alloc (unhide HM) _) _)) | with_reducible exact own_left (mid_alloc (unhide HM) _)) ⟨_, 0, none⟩ 1 1 (cellsL X) (by rfl) (by rfl) (by first | exact news_new _ _ _ | exact news_drew (news_new _ _ _) | exact news_drew (news_two _ _ _ _) | exact news_drew (news_old _ _ _ _) | exact unhide NK) (cells_one X) (by decide) (by unfold maxLen; omega) (by omega) (by have h_ := (unhide HB).size; first | exact h_ | (simp; omega)) _ rfl ?_; intro gl capl wl ho hg hat hltl; (first | have NK := hide (news_grown (news_drew (news_two w3 29 X _)) hg (no_block (unhide HM).left (by omega)) (by first | (simp; done) | (simp; omega))) | have NK := hide (news_grown (news_drew (news_old w3 29 X _)) hg (no_block (unhide HM).left (by omega)) (by first | (simp; done) | (simp; omega))) | skip); have HB1 := hide (grown_below (by first | with_reducible exact unhide HB | with_reducible exact (below_nx (unhide HB) (below_al _ _)).drew | with_reducible exact (below_nx (below_nx (unhide HB) (below_al _ _)) (below_al _ _)).drew | with_reducible exact below_nx (unhide HB) (below_al _ _)) (by have h_ := (unhide HB).size; first | exact h_ | (simp; omega)) (by first | with_reducible exact own_left (unhide HM) | with_reducible exact own_left (mid_drew (mid_alloc (unhide HM) _)) | with_reducible exact own_left (mid_drew (mid_alloc (mid_alloc (unhide HM) _) _)) | with_reducible exact own_left (mid_alloc (unhide HM) _)) hg); replace HM := hide (mid_left (by first | with_reducible exact unhide HM | with_reducible exact mid_drew (mid_alloc (unhide HM) _) | with_reducible exact mid_drew (mid_alloc (mid_alloc (unhide HM) _) _) | with_reducible exact mid_alloc (unhide HM) _) ho hg hat); replace HB := HB1; clear HB1; replace P := hide (five_grown (by first | with_reducible exact unhide P | with_reducible exact five_drew (five_alloc (unhide P) _) | with_reducible exact five_drew (five_alloc (five_alloc (unhide P) _) _) | with_reducible exact five_alloc (unhide P) _) hg (unhide NPa)); replace Q := hide (five_grown (by first | with_reducible exact unhide Q | with_reducible exact five_drew (five_alloc (unhide Q) _) | with_reducible exact five_drew (five_alloc (five_alloc (unhide Q) _) _) | with_reducible exact five_alloc (unhide Q) _) hg (unhide NQa)); clear p_0 p_1 p_2 p_3 p_4 q_0 q_1 q_2 q_3 q_4; clear ho hg hat; obtain ⟨p_0, p_1, p_2, p_3, p_4⟩ := five_cells (unhide P); obtain ⟨q_0, q_1, q_2, q_3, q_4⟩ := five_cells (unhide Q))
            | (refine step_append_lies _ (by rfl) (.tmp 29) (.tmp 31) 45 (by rfl) w.heap.size 29 iR (.agg #[.int .i64 0, .int .i64 0, .string ⟨#[]⟩, .bool false, .int .i64 0]) 5 48 Tryz.underlying45 hR hRz0 hRz1 hRz2 (by rfl) (by decide) u5 zs.length (flatV zs) (by rfl) (by first | with_reducible exact own_right (unhide HM) | with_reducible exact own_right (mid_drew (mid_alloc (unhide HM) _)) | with_reducible exact own_right (mid_drew (mid_alloc (mid_alloc (unhide HM) _) _)) | with_reducible exact own_right (mid_alloc (unhide HM) _)) ⟨_, 0, none⟩ 1 1 (cellsL X) (by rfl) (by rfl) (by first | exact news_new _ _ _ | exact news_drew (news_new _ _ _) | exact news_drew (news_two _ _ _ _) | exact news_drew (news_old _ _ _ _) | exact unhide NK) (cells_one X) (by decide) (by unfold maxLen; omega) (by omega) (by have h_ := (unhide HB).size; first | exact h_ | (simp; omega)) _ rfl ?_; intro gr capr wr ho hg hat hltr; (first | have NK := hide (news_grown (news_drew (news_two w3 28 X _)) hg (no_block (unhide HM).right (by omega)) (by first | (simp; done) | (simp; omega))) | have NK := hide (news_grown (news_drew (news_old w3 28 X _)) hg (no_block (unhide HM).right (by omega)) (by first | (simp; done) | (simp; omega))) | skip); have HB1 := hide (grown_below (by first | with_reducible exact unhide HB | with_reducible exact (below_nx (unhide HB) (below_al _ _)).drew | with_reducible exact (below_nx (below_nx (unhide HB) (below_al _ _)) (below_al _ _)).drew | with_reducible exact below_nx (unhide HB) (below_al _ _)) (by have h_ := (unhide HB).size; first | exact h_ | (simp; omega)) (by first | with_reducible exact own_right (unhide HM) | with_reducible exact own_right (mid_drew (mid_alloc (unhide HM) _)) | with_reducible exact own_right (mid_drew (mid_alloc (mid_alloc (unhide HM) _) _)) | with_reducible exact own_right (mid_alloc (unhide HM) _)) hg); replace HM := hide (mid_right (by first | with_reducible exact unhide HM | with_reducible exact mid_drew (mid_alloc (unhide HM) _) | with_reducible exact mid_drew (mid_alloc (mid_alloc (unhide HM) _) _) | with_reducible exact mid_alloc (unhide HM) _) ho hg hat); replace HB := HB1; clear HB1; replace P := hide (five_grown (by first | with_reducible exact unhide P | with_reducible exact five_drew (five_alloc (unhide P) _) | with_reducible exact five_drew (five_alloc (five_alloc (unhide P) _) _) | with_reducible exact five_alloc (unhide P) _) hg (unhide NPb)); replace Q := hide (five_grown (by first | with_reducible exact unhide Q | with_reducible exact five_drew (five_alloc (unhide Q) _) | with_reducible exact five_drew (five_alloc (five_alloc (unhide Q) _) _) | with_reducible exact five_alloc (unhide Q) _) hg (unhide NQb)); clear p_0 p_1 p_2 p_3 p_4 q_0 q_1 q_2 q_3 q_4; clear ho hg hat; obtain ⟨p_0, p_1, p_2, p_3, p_4⟩ := five_cells (unhide P); obtain ⟨q_0, q_1, q_2, q_3, q_4⟩ := five_cells (unhide Q)))
        all_goals (try go_wp2_with fail)
        all_goals go_roundw
        all_goals first
          | exact ⟨zs ++ [X], int_eqv (by simp), by simp; omega, HT1, HM, hide (fun h => by simp at h), HB⟩
          | (simp [intOf]; omega)
      · have hzl : zs.length = m := by omega
        have hzZ : zs = Z := by rw [unhide HT, hzl, ← unhide HZL, List.take_length]
        subst hzZ
        go_wp2
        go_ret2
        exact ⟨_, _, rfl, unhide HM, unhide HNI, unhide HB⟩
end Go.Proofs.YtbeijnflfmjgfaaGreatDoor

namespace Go.Proofs.YtbeijnflfmjgfaaGreatDoor
open Go.RowKit

def names13 : Array Value := #[.string ⟨#[65, 66, 83]⟩, .string ⟨#[83, 73, 71, 78]⟩, .string ⟨#[73, 78, 84]⟩, .string ⟨#[84, 82, 85, 78, 67]⟩, .string ⟨#[82, 79, 85, 78, 68]⟩, .string ⟨#[82, 79, 85, 78, 68, 85, 80]⟩, .string ⟨#[77, 79, 68]⟩, .string ⟨#[81, 85, 79, 84, 73, 69, 78, 84]⟩, .string ⟨#[83, 81, 82, 84]⟩, .string ⟨#[71, 67, 68]⟩, .string ⟨#[70, 65, 67, 84]⟩, .string ⟨#[69, 86, 69, 78]⟩, .string ⟨#[82, 65, 84, 73, 79]⟩]
theorem names_law (w : World) : Calls Tryz.prog 20 #[] w fun e w' => e = .returned (.slice (some ⟨w.heap.size, 0, none⟩) 13 13) ∧ w' = w.alloc (.cells names13 9) := by
  go_enter Tryz.func20, Tryz.ntmps20
  go_wp2
  go_ret
  exact ⟨rfl, rfl⟩
theorem cut20_size9 (s : ByteArray) : (s.extract 0 (min (s.size : Int) 20).toNat).size ≤ 20 := by
  rw [ByteArray.size_extract]; omega
theorem names_at {t : ByteArray} (ht : t.size ≤ 20) (k : Nat) (hk : k < 14) : ∃ o : ByteArray, (names13.toList ++ [.string t])[k]? = some (.string o) ∧ o.size ≤ 1000 := by
  have hk' : k = 13 ∨ k = 0 ∨ k = 1 ∨ k = 2 ∨ k = 3 ∨ k = 4 ∨ k = 5 ∨ k = 6 ∨ k = 7 ∨ k = 8 ∨ k = 9 ∨ k = 10 ∨ k = 11 ∨ k = 12 := by omega
  rcases hk' with rfl | rfl | rfl | rfl | rfl | rfl | rfl | rfl | rfl | rfl | rfl | rfl | rfl | rfl
  · exact ⟨t, rfl, by omega⟩
  all_goals exact ⟨_, rfl, by decide⟩
theorem infoS9 : (Tryz.prog.info? 9).map (fun i => (i.zero, i.size, i.bytes)) = some (some (.string ⟨#[]⟩), 1, 16) := by kernel_rfl
theorem str_parts9 {P : Program} {t : TypeId} {z : Value} (h : (P.info? t).map (fun i => (i.zero, i.size, i.bytes)) = some (some z, 1, 16)) : ∃ i, P.info? t = some i ∧ i.zero = some z ∧ i.size = 1 ∧ i.bytes = 16 := by
  cases hi : P.info? t with
  | none => rw [hi] at h; cases h
  | some i =>
    rw [hi] at h
    simp only [Option.map_some, Option.some.injEq, Prod.mk.injEq] at h
    exact ⟨i, rfl, h.1, h.2.1, h.2.2⟩
theorem own_capT {T : TypeId} {w : World} {B n z g cap : Nat} {xs : List Value} (h : w.ownsRow B T z (.slice (some ⟨g, 0, none⟩) n cap) n xs) : n ≤ cap ∧ cap ≤ maxLen := by
  rcases h.2 with ⟨e, _⟩ | ⟨g, cap, cur, e, _, _, h1, h2, _⟩
  · cases e
  · cases e; exact ⟨h1, h2⟩
theorem vals_take {w : World} {ad : Option Addr} {n cap k : Nat} {vs : List Vl} (h : ValsAt w (.slice ad n cap) vs) (hk : k ≤ vs.length) : ValsAt w (.slice ad k cap) (vs.take k) := by
  obtain ⟨ad', cap', e, h1⟩ := h
  cases e
  have hl : (vs.take k).length = k := by rw [List.length_take]; omega
  refine ⟨ad, cap, by rw [hl], fun h0 => ?_⟩
  obtain ⟨b, o, e, hb, hc⟩ := h1 (by omega)
  refine ⟨b, o, e, hb, fun i x hx => ?_⟩
  rw [List.getElem?_take] at hx
  split at hx
  · exact hc i x hx
  · cases hx
theorem lens_at {w : World} {G m : Nat} {ty : TypeId} (h : w.heap[G]? = some (.cells #[.int .i64 (m : Int), .int .i64 (min (m : Int) 1), .int .i64 (min (m : Int) 2)] ty (0, 0))) (j : Nat) (hj : j < 3) :
    ∃ k : Nat, w.cell? ⟨G, j, none⟩ = some (.int .i64 (k : Int)) ∧ k ≤ m := by
  have e : ∀ i : Nat, w.cell? ⟨G, i, none⟩ = (#[.int .i64 (m : Int), .int .i64 (min (m : Int) 1), .int .i64 (min (m : Int) 2)] : Array Value)[i]? := fun i => by simp [World.cell?, h]
  have hj' : j = 0 ∨ j = 1 ∨ j = 2 := by omega
  rcases hj' with rfl | rfl | rfl
  · exact ⟨m, by rw [e]; rfl, Nat.le_refl _⟩
  · exact ⟨min m 1, by rw [e]; show some (Value.int .i64 (min (m : Int) 1)) = _; congr 2; omega, by omega⟩
  · exact ⟨min m 2, by rw [e]; show some (Value.int .i64 (min (m : Int) 2)) = _; congr 2; omega, by omega⟩
theorem lens_nil {w : World} {G : Nat} {ty : TypeId} (h : w.heap[G]? = some (.cells #[.int .i64 0, .int .i64 (min 0 1), .int .i64 (min 0 2)] ty (0, 0))) (j : Nat) (hj : j < 3) : w.cell? ⟨G, j, none⟩ = some (.int .i64 0) := by
  have e : ∀ i : Nat, w.cell? ⟨G, i, none⟩ = (#[.int .i64 0, .int .i64 (min 0 1), .int .i64 (min 0 2)] : Array Value)[i]? := fun i => by simp [World.cell?, h]
  have hj' : j = 0 ∨ j = 1 ∨ j = 2 := by omega
  rcases hj' with rfl | rfl | rfl
  all_goals (rw [e]; rfl)

set_option maxRecDepth 100000 in
set_option maxHeartbeats 16000000 in
theorem calls_law (hp : PNums) (s : ByteArray) (v : Value) (xs : List Vl) (w : World) (_hs : s.size ≤ maxLen) (hx : ∀ x ∈ xs, x.text.size ≤ maxLen) (hv : LValsAt w v xs) (he : Env3 w) :
    Calls Tryz.prog 5 #[.string s, v] w fun e w' => e = .returned (.bool true) ∧ Below w.heap.size w w' := by
  have HE := hide he
  clear he
  have HP := hide hp
  clear hp
  have HWK := hide (fun w he => wakes9 (unhide HP) w he)
  have HL := hide (list_law v xs w hv hx)
  obtain ⟨iS, hS, hSz0, hSz1, hSz2⟩ := str_parts9 infoS9
  go_enter Tryz.func5, Tryz.ntmps5
  go_wp2_with fail
  refine (unhide HL).mono ?_
  rintro e w1 ⟨a, b, rfl, hm, hnil, hb⟩
  have HM := hide hm
  have HB := hide hb
  clear hm hb hv hx HL
  have HZT : Hid (∀ x ∈ (xs.take 40).map cutV, x.text.size ≤ 1000) := hide (fun x hx => by
    obtain ⟨y, _, rfl⟩ := List.mem_map.1 hx
    have : (cutV y).text.size ≤ 300 := cutT_size y.text
    omega)
  have HZL : Hid (((xs.take 40).map cutV).length ≤ 40) := hide (by rw [List.length_map, List.length_take]; omega)
  generalize (xs.take 40).map cutV = Z at HM hnil HZT HZL ⊢
  clear xs
  by_cases hZ : Z = []
  · obtain ⟨rfl, rfl⟩ := hnil hZ
    subst hZ
    clear hnil HM HZL
    go_upto_region 3 with fail
    have ST := hide (cut20_size9 s)
    clear _hs
    generalize s.extract 0 (min (s.size : Int) 20).toNat = t at ST ⊢
    go_wp2_with fail
    refine (names_law _).mono ?_
    rintro e w2 ⟨rfl, rfl⟩
    have HN := hide (World.ownsRow_lit (e := 9) (size := 1) (base := w1.heap.size) w1 names13 13 (Nat.le_refl _) (by decide) (by decide))
    have HBL := hide (below_al w1 (.cells names13 9))
    generalize hW : w1.alloc (.cells names13 9) = w2 at HN HBL ⊢
    clear hW
    go_wp2_with (at_builtin; refine wpList_append_lies _ rfl _ _ 32 rfl w1.heap.size 9 iS (.string ⟨#[]⟩) 1 16 Tryz.underlying32 hS hSz0 hSz1 hSz2 rfl (by decide) _ _ _ rfl ((unhide HN).alloc _) ⟨w2.heap.size, 0, none⟩ 1 1 [.string t] rfl rfl (World.news_of_block (heap_alloc_new _ _)) (by simp [Value.oneCell']) (by omega) (by unfold maxLen; omega) (by omega) (by have h_ := (unhide HBL).size; simp; omega) _ rfl ?_)
    intro gn cn WL hown hgrow hat hlt
    have hbl := ((unhide HBL).alloc (unhide HBL).size (.cells #[.string t] 9)).grown hgrow (by have h_ := (unhide HBL).size; simp; omega) (fun j hj => (World.ownsRow.lt (unhide HN) j hj).1)
    have HNC := hide (World.ownsRow.cellAt hown)
    clear hown hgrow hat HBL HN
    replace HB := hide (below_nx (unhide HB) hbl)
    clear hbl
    have HB0 := HB
    clear HB
    replace HE := hide ((unhide HE).below (unhide HB0))
    have HVA : Hid (ValsAt WL (.slice none 0 0) []) := hide ⟨none, 0, rfl, fun h => absurd h (Nat.lt_irrefl 0)⟩
    have HVR := HVA
    go_wp2_with fail
    go_loopw [30] (fun u wr => ∃ n : Nat, u = .int .i64 (n : Int) ∧ n ≤ 14 ∧ Hid (Below WL.heap.size WL wr)) (fun u _ => 14 - (intOf u).toNat)
    case atStart => exact ⟨0, rfl, Nat.zero_le _, hide (Below.refl _ _)⟩
    case round =>
      obtain ⟨n, rfl, hn, HB⟩ := hrel
      by_cases hlt' : (n : Int) < 14
      · obtain ⟨o, co, ho⟩ := names_at (unhide ST) n (by omega)
        rw [← unhide HNC n (by omega)] at co
        rw [← (unhide HB).cell (p := ⟨gn, n, none⟩) hlt] at co
        go_upto_region 7 with fail
        clear co
        have HG : Hid ((wr.alloc (.cells #[.int .i64 0, .int .i64 (min 0 1), .int .i64 (min 0 2)] 3)).heap[wr.heap.size]? = some (.cells #[.int .i64 0, .int .i64 (min 0 1), .int .i64 (min 0 2)] 3 (0, 0))) := hide (heap_alloc_new _ _)
        have hgl : wr.heap.size < (wr.alloc (.cells #[.int .i64 0, .int .i64 (min 0 1), .int .i64 (min 0 2)] 3)).heap.size := by simp
        have HB6 := hide (below_nx (unhide HB) (below_al wr (.cells #[.int .i64 0, .int .i64 (min 0 1), .int .i64 (min 0 2)] 3)))
        generalize hW : wr.alloc (.cells #[.int .i64 0, .int .i64 (min 0 1), .int .i64 (min 0 2)] 3) = W6 at HG hgl HB6 ⊢
        clear hW HB
        generalize wr.heap.size = G at HG hgl ⊢
        have HE6 := hide ((unhide HE).below (unhide HB6))
        have HVA6 := hide (vals_below (unhide HVA) (Nat.le_refl _) (unhide HB6))
        have HVR6 := hide (vals_below (unhide HVR) (Nat.le_refl _) (unhide HB6))
        have HPO := hide (fun (va : Value) (vs : List Vl) w h1 h2 h3 he => (unhide HP).call o va vs w ho h1 h2 h3 he)
        have HRO := hide (fun (va : Value) (vs : List Vl) w h1 h2 h3 => call9_ref o va vs w h1 h2 h3)
        have HHO := hide (fun w he => (unhide HP).has o w ho he)
        have HTO := hide (fun w => takes_ref o w)
        have hcb : callB o.toList = decide (takesL o.toList ≠ 0) := rfl
        obtain ⟨cb, ecb⟩ : ∃ c, callB o.toList = c := ⟨_, rfl⟩
        obtain ⟨tk, etk⟩ : ∃ c, takesL o.toList = c := ⟨_, rfl⟩
        rw [ecb] at HPO HRO HHO hcb
        rw [etk] at HTO hcb
        clear ecb etk ho
        go_loopw [44] (fun u wi => ∃ j : Nat, u = .int .i64 (j : Int) ∧ j ≤ 3 ∧ Hid (Below W6.heap.size W6 wi)) (fun u _ => 3 - (intOf u).toNat)
        case atStart => exact ⟨0, rfl, Nat.zero_le _, hide (Below.refl _ _)⟩
        case round =>
          obtain ⟨j, rfl, hj, HB⟩ := hrel
          by_cases hlj : (j : Int) < 3
          · have cj := lens_nil (((unhide HB).block G hgl).trans (unhide HG)) j (by omega)
            by_cases hpow : o.toList = [80, 79, 87, 69, 82]
            · obtain rfl := toList_lit hpow
              go_wp2
              go_roundw
              case rel => exact ⟨j + 1, by go_num, by omega, HB⟩
              case measure => simp [intOf]; omega
            have hpw := ne_lit hpow
            clear hpow
            have HP1 := hide (fun w hb he => unhide HPO (.slice none 0 0) [] w (Nat.zero_le _) (fun x hx => by simp at hx) (vals_below (unhide HVA6) (Nat.le_refl _) hb) he)
            have HR1 := hide (fun w hb => unhide HRO (.slice none 0 0) [] w (Nat.zero_le _) (fun x hx => by simp at hx) (vals_below (unhide HVR6) (Nat.le_refl _) hb))
            obtain ⟨V, eV⟩ : ∃ V, callV o.toList [] = V := ⟨_, rfl⟩
            rw [eV] at HP1 HR1
            clear eV
            have HS := hide (fun w => same9_law V w)
            unfold Vl.cells at HP1 HR1 HS
            go_wp2_with fail
            refine (unhide HP1 _ (unhide HB) ((unhide HE6).below (unhide HB))).mono ?_
            rintro e w1 ⟨rfl, b1⟩
            replace HB := hide (below_nx (unhide HB) b1)
            clear b1
            have V1 := hide (five_new w1 28 (.int .i64 V.kind) (.int .i64 V.num) (.string V.text) (.bool V.tr) (.int .i64 V.fail))
            have bb := below_al w1 (.cells #[.int .i64 V.kind, .int .i64 V.num, .string V.text, .bool V.tr, .int .i64 V.fail] 28)
            replace HB := hide (below_nx (unhide HB) bb)
            clear bb
            go_upto_region 11 with fail
            generalize hW : w1.alloc (.cells #[.int .i64 V.kind, .int .i64 V.num, .string V.text, .bool V.tr, .int .i64 V.fail] 28) = W2 at V1 HB  ⊢
            clear hW
            go_wp2_with fail
            refine (unhide HR1 _ (unhide HB)).mono ?_
            rintro e w3 ⟨rfl, b3⟩
            replace V1 := hide (five_below (unhide V1) b3 (five_lt (unhide V1)))
            replace HB := hide (below_nx (unhide HB) b3)
            clear b3
            have V2 := hide (five_new w3 29 (.int .i64 V.kind) (.int .i64 V.num) (.string V.text) (.bool V.tr) (.int .i64 V.fail))
            have bb := below_al w3 (.cells #[.int .i64 V.kind, .int .i64 V.num, .string V.text, .bool V.tr, .int .i64 V.fail] 29)
            replace V1 := hide (five_below (unhide V1) bb (five_lt (unhide V1)))
            replace HB := hide (below_nx (unhide HB) bb)
            clear bb
            go_upto_region 12 with fail
            generalize hW : w3.alloc (.cells #[.int .i64 V.kind, .int .i64 V.num, .string V.text, .bool V.tr, .int .i64 V.fail] 29) = W4 at V2 HB V1 ⊢
            clear hW
            obtain ⟨v1_0, v1_1, v1_2, v1_3, v1_4⟩ := five_cells (unhide V1)
            obtain ⟨v2_0, v2_1, v2_2, v2_3, v2_4⟩ := five_cells (unhide V2)
            have hbb : (cb != cb) = false := bne_self_eq_false cb
            go_wp2_with fail
            refine (unhide HS _).mono ?_
            rintro e w9 ⟨rfl, b9⟩
            replace HB := hide (below_nx (unhide HB) b9)
            clear b9 v1_0 v1_1 v1_2 v1_3 v1_4 v2_0 v2_1 v2_2 v2_3 v2_4
            go_wp2_with fail
            refine (unhide HHO _ ((unhide HE6).below (unhide HB))).mono ?_
            rintro e w10 ⟨rfl, b10⟩
            replace HB := hide (below_nx (unhide HB) b10)
            clear b10
            go_wp2_with fail
            refine (unhide HTO _).mono ?_
            rintro e w11 ⟨rfl, rfl⟩
            by_cases ht0 : tk = 0
            · subst ht0
              rw [show decide ((0 : Nat) ≠ 0) = false from rfl] at hcb
              subst hcb
              go_wp2
              go_roundw
              case rel => exact ⟨j + 1, by go_num, by omega, HB⟩
              case measure => simp [intOf]; omega
            · have hti : 0 < tk := by omega
              rw [decide_eq_true ht0] at hcb
              subst hcb
              go_wp2
              go_roundw
              case rel => exact ⟨j + 1, by go_num, by omega, HB⟩
              case measure => simp [intOf]; omega
          · go_wp2
            go_roundw
            case rel => exact ⟨n + 1, by go_num, by omega, hide (below_nx (unhide HB6) (unhide HB))⟩
            case measure => simp [intOf]; omega
      · go_wp2_with fail
        refine (unhide HWK _ ((unhide HE).below (unhide HB))).mono ?_
        rintro e w9 ⟨rfl, b9⟩
        replace HB := hide (below_nx (unhide HB) b9)
        clear b9
        go_wp2
        go_ret
        exact ⟨rfl, below_nx (unhide HB0) (unhide HB)⟩
  · have hZn : 0 < Z.length := by cases Z with | nil => exact absurd rfl hZ | cons => simp
    clear hnil hZ
    obtain ⟨m, hZm⟩ : ∃ m, Z.length = m := ⟨_, rfl⟩
    have HZM := hide hZm
    have hm40 : m ≤ 40 := by rw [← hZm]; exact unhide HZL
    have hm0 : 0 < m := by rw [← hZm]; exact hZn
    obtain ⟨ga, ca, rfl⟩ := own_openT (unhide HM).left hZn
    obtain ⟨gb, cb9, rfl⟩ := own_openT (unhide HM).right hZn
    have hca := own_capT (unhide HM).left
    have hcb9 := own_capT (unhide HM).right
    rw [hZm] at hca hcb9 ⊢
    clear hZm hZn
    go_upto_region 3 with fail
    have ST := hide (cut20_size9 s)
    clear _hs
    generalize s.extract 0 (min (s.size : Int) 20).toNat = t at ST ⊢
    go_wp2_with fail
    refine (names_law _).mono ?_
    rintro e w2 ⟨rfl, rfl⟩
    have HN := hide (World.ownsRow_lit (e := 9) (size := 1) (base := w1.heap.size) w1 names13 13 (Nat.le_refl _) (by decide) (by decide))
    have HBL := hide (below_al w1 (.cells names13 9))
    generalize hW : w1.alloc (.cells names13 9) = w2 at HN HBL ⊢
    clear hW
    go_wp2_with (at_builtin; refine wpList_append_lies _ rfl _ _ 32 rfl w1.heap.size 9 iS (.string ⟨#[]⟩) 1 16 Tryz.underlying32 hS hSz0 hSz1 hSz2 rfl (by decide) _ _ _ rfl ((unhide HN).alloc _) ⟨w2.heap.size, 0, none⟩ 1 1 [.string t] rfl rfl (World.news_of_block (heap_alloc_new _ _)) (by simp [Value.oneCell']) (by omega) (by unfold maxLen; omega) (by omega) (by have h_ := (unhide HBL).size; simp; omega) _ rfl ?_)
    intro gn cn WL hown hgrow hat hlt
    have hbl := ((unhide HBL).alloc (unhide HBL).size (.cells #[.string t] 9)).grown hgrow (by have h_ := (unhide HBL).size; simp; omega) (fun j hj => (World.ownsRow.lt (unhide HN) j hj).1)
    have HNC := hide (World.ownsRow.cellAt hown)
    clear hown hgrow hat HBL HN
    replace HB := hide (below_nx (unhide HB) hbl)
    replace HM := hide (mid_below (unhide HM) hbl)
    clear hbl
    have HB0 := HB
    clear HB
    replace HE := hide ((unhide HE).below (unhide HB0))
    have HVA := hide (vrow_vals (unhide HM).left)
    have HVR := hide (vrow_vals (unhide HM).right)
    clear HM
    go_wp2_with fail
    go_loopw [30] (fun u wr => ∃ n : Nat, u = .int .i64 (n : Int) ∧ n ≤ 14 ∧ Hid (Below WL.heap.size WL wr)) (fun u _ => 14 - (intOf u).toNat)
    case atStart => exact ⟨0, rfl, Nat.zero_le _, hide (Below.refl _ _)⟩
    case round =>
      obtain ⟨n, rfl, hn, HB⟩ := hrel
      by_cases hlt' : (n : Int) < 14
      · obtain ⟨o, co, ho⟩ := names_at (unhide ST) n (by omega)
        rw [← unhide HNC n (by omega)] at co
        rw [← (unhide HB).cell (p := ⟨gn, n, none⟩) hlt] at co
        go_upto_region 7 with fail
        clear co
        have HG : Hid ((wr.alloc (.cells #[.int .i64 (m : Int), .int .i64 (min (m : Int) 1), .int .i64 (min (m : Int) 2)] 3)).heap[wr.heap.size]? = some (.cells #[.int .i64 (m : Int), .int .i64 (min (m : Int) 1), .int .i64 (min (m : Int) 2)] 3 (0, 0))) := hide (heap_alloc_new _ _)
        have hgl : wr.heap.size < (wr.alloc (.cells #[.int .i64 (m : Int), .int .i64 (min (m : Int) 1), .int .i64 (min (m : Int) 2)] 3)).heap.size := by simp
        have HB6 := hide (below_nx (unhide HB) (below_al wr (.cells #[.int .i64 (m : Int), .int .i64 (min (m : Int) 1), .int .i64 (min (m : Int) 2)] 3)))
        generalize hW : wr.alloc (.cells #[.int .i64 (m : Int), .int .i64 (min (m : Int) 1), .int .i64 (min (m : Int) 2)] 3) = W6 at HG hgl HB6 ⊢
        clear hW HB
        generalize wr.heap.size = G at HG hgl ⊢
        have HE6 := hide ((unhide HE).below (unhide HB6))
        have HVA6 := hide (vals_below (unhide HVA) (Nat.le_refl _) (unhide HB6))
        have HVR6 := hide (vals_below (unhide HVR) (Nat.le_refl _) (unhide HB6))
        have HPO := hide (fun (va : Value) (vs : List Vl) w h1 h2 h3 he => (unhide HP).call o va vs w ho h1 h2 h3 he)
        have HRO := hide (fun (va : Value) (vs : List Vl) w h1 h2 h3 => call9_ref o va vs w h1 h2 h3)
        have HHO := hide (fun w he => (unhide HP).has o w ho he)
        have HTO := hide (fun w => takes_ref o w)
        have hcb : callB o.toList = decide (takesL o.toList ≠ 0) := rfl
        obtain ⟨cb, ecb⟩ : ∃ c, callB o.toList = c := ⟨_, rfl⟩
        obtain ⟨tk, etk⟩ : ∃ c, takesL o.toList = c := ⟨_, rfl⟩
        rw [ecb] at HPO HRO HHO hcb
        rw [etk] at HTO hcb
        clear ecb etk ho
        go_loopw [44] (fun u wi => ∃ j : Nat, u = .int .i64 (j : Int) ∧ j ≤ 3 ∧ Hid (Below W6.heap.size W6 wi)) (fun u _ => 3 - (intOf u).toNat)
        case atStart => exact ⟨0, rfl, Nat.zero_le _, hide (Below.refl _ _)⟩
        case round =>
          obtain ⟨j, rfl, hj, HB⟩ := hrel
          by_cases hlj : (j : Int) < 3
          · obtain ⟨k, cj, hk⟩ := lens_at (((unhide HB).block G hgl).trans (unhide HG)) j (by omega)
            have hk0 : (0 : Int) ≤ (k : Int) := by omega
            have hka : (k : Int) ≤ (ca : Int) := by omega
            have hkb : (k : Int) ≤ (cb9 : Int) := by omega
            have hcz : ¬ (ca = 0) := by omega
            have hcz9 : ¬ (cb9 = 0) := by omega
            by_cases hpow : o.toList = [80, 79, 87, 69, 82]
            · obtain rfl := toList_lit hpow
              go_wp2
              go_roundw
              case rel => exact ⟨j + 1, by go_num, by omega, HB⟩
              case measure => simp [intOf]; omega
            have hpw := ne_lit hpow
            clear hpow
            have HP1 := hide (fun w hb he => unhide HPO (.slice (some ⟨ga, 0, none⟩) k ca) (Z.take k) w (by rw [List.length_take]; have := unhide HZL; omega) (fun x hx => unhide HZT x (List.mem_of_mem_take hx)) (vals_take (vals_below (unhide HVA6) (Nat.le_refl _) (hb : Below W6.heap.size W6 w)) (by rw [unhide HZM]; exact hk)) he)
            have HR1 := hide (fun w hb => unhide HRO (.slice (some ⟨gb, 0, none⟩) k cb9) (Z.take k) w (by rw [List.length_take]; have := unhide HZL; omega) (fun x hx => unhide HZT x (List.mem_of_mem_take hx)) (vals_take (vals_below (unhide HVR6) (Nat.le_refl _) (hb : Below W6.heap.size W6 w)) (by rw [unhide HZM]; exact hk)))
            obtain ⟨V, eV⟩ : ∃ V, callV o.toList (Z.take k) = V := ⟨_, rfl⟩
            rw [eV] at HP1 HR1
            clear eV
            have HS := hide (fun w => same9_law V w)
            unfold Vl.cells at HP1 HR1 HS
            go_wp2_with fail
            refine (unhide HP1 _ (unhide HB) ((unhide HE6).below (unhide HB))).mono ?_
            rintro e w1 ⟨rfl, b1⟩
            replace HB := hide (below_nx (unhide HB) b1)
            clear b1
            have V1 := hide (five_new w1 28 (.int .i64 V.kind) (.int .i64 V.num) (.string V.text) (.bool V.tr) (.int .i64 V.fail))
            have bb := below_al w1 (.cells #[.int .i64 V.kind, .int .i64 V.num, .string V.text, .bool V.tr, .int .i64 V.fail] 28)
            replace HB := hide (below_nx (unhide HB) bb)
            clear bb
            go_upto_region 11 with fail
            generalize hW : w1.alloc (.cells #[.int .i64 V.kind, .int .i64 V.num, .string V.text, .bool V.tr, .int .i64 V.fail] 28) = W2 at V1 HB  ⊢
            clear hW
            go_wp2_with fail
            refine (unhide HR1 _ (unhide HB)).mono ?_
            rintro e w3 ⟨rfl, b3⟩
            replace V1 := hide (five_below (unhide V1) b3 (five_lt (unhide V1)))
            replace HB := hide (below_nx (unhide HB) b3)
            clear b3
            have V2 := hide (five_new w3 29 (.int .i64 V.kind) (.int .i64 V.num) (.string V.text) (.bool V.tr) (.int .i64 V.fail))
            have bb := below_al w3 (.cells #[.int .i64 V.kind, .int .i64 V.num, .string V.text, .bool V.tr, .int .i64 V.fail] 29)
            replace V1 := hide (five_below (unhide V1) bb (five_lt (unhide V1)))
            replace HB := hide (below_nx (unhide HB) bb)
            clear bb
            go_upto_region 12 with fail
            generalize hW : w3.alloc (.cells #[.int .i64 V.kind, .int .i64 V.num, .string V.text, .bool V.tr, .int .i64 V.fail] 29) = W4 at V2 HB V1 ⊢
            clear hW
            obtain ⟨v1_0, v1_1, v1_2, v1_3, v1_4⟩ := five_cells (unhide V1)
            obtain ⟨v2_0, v2_1, v2_2, v2_3, v2_4⟩ := five_cells (unhide V2)
            have hbb : (cb != cb) = false := bne_self_eq_false cb
            go_wp2_with fail
            refine (unhide HS _).mono ?_
            rintro e w9 ⟨rfl, b9⟩
            replace HB := hide (below_nx (unhide HB) b9)
            clear b9 v1_0 v1_1 v1_2 v1_3 v1_4 v2_0 v2_1 v2_2 v2_3 v2_4
            go_wp2_with fail
            refine (unhide HHO _ ((unhide HE6).below (unhide HB))).mono ?_
            rintro e w10 ⟨rfl, b10⟩
            replace HB := hide (below_nx (unhide HB) b10)
            clear b10
            go_wp2_with fail
            refine (unhide HTO _).mono ?_
            rintro e w11 ⟨rfl, rfl⟩
            by_cases ht0 : tk = 0
            · subst ht0
              rw [show decide ((0 : Nat) ≠ 0) = false from rfl] at hcb
              subst hcb
              go_wp2
              go_roundw
              case rel => exact ⟨j + 1, by go_num, by omega, HB⟩
              case measure => simp [intOf]; omega
            · have hti : 0 < tk := by omega
              rw [decide_eq_true ht0] at hcb
              subst hcb
              go_wp2
              go_roundw
              case rel => exact ⟨j + 1, by go_num, by omega, HB⟩
              case measure => simp [intOf]; omega
          · go_wp2
            go_roundw
            case rel => exact ⟨n + 1, by go_num, by omega, hide (below_nx (unhide HB6) (unhide HB))⟩
            case measure => simp [intOf]; omega
      · go_wp2_with fail
        refine (unhide HWK _ ((unhide HE).below (unhide HB))).mono ?_
        rintro e w9 ⟨rfl, b9⟩
        replace HB := hide (below_nx (unhide HB) b9)
        clear b9
        go_wp2
        go_ret
        exact ⟨rfl, below_nx (unhide HB0) (unhide HB)⟩
end Go.Proofs.YtbeijnflfmjgfaaGreatDoor

namespace Go.Proofs.YtbeijnflfmjgfaaGreatDoor
open Go.RowKit

def absG (a : Int) : Int × Int := ((a.natAbs : Int), 0)
def signG (a : Int) : Int × Int := (if a < 0 then -10000 else if 0 < a then 10000 else 0, 0)
def floorG (a : Int) : Int × Int := (floorV a, 0)
def truncG (a : Int) : Int × Int := (a.tdiv 10000 * 10000, 0)
def sqrtG (a : Int) : Int × Int := if a < 0 then (0, 5) else (rootV a, 0)
def factG (a : Int) : Int × Int := if a.tmod 10000 ≠ 0 ∨ a < 0 then (0, 5) else factL (a / 10000 - 1).toNat 20000 10000
def powP (a b : Int) : Int × Int := if (powL a (b.tdiv 10000).natAbs 10000).2 ≠ 0 ∨ 0 ≤ b then powL a (b.tdiv 10000).natAbs 10000 else divR 10000 (powL a (b.tdiv 10000).natAbs 10000).1
def powG (a b : Int) : Int × Int := if b.tmod 10000 ≠ 0 ∨ b < -10000000 ∨ 10000000 < b then (0, 5) else powP a b
def rndG (a p : Int) : Int × Int := if p.tmod 10000 ≠ 0 ∨ p < -150000 ∨ 150000 < p then (0, 5) else roundR a (p.tdiv 10000)
def upQ (a p : Int) : Int × Int := if 3 < p then (a, 0) else (sgnN (decide (a < 0)) (upP a.natAbs (4 - p).toNat : Nat), sgnE (upP a.natAbs (4 - p).toNat : Nat))
def upG (a p : Int) : Int × Int := if p.tmod 10000 ≠ 0 ∨ p < -150000 ∨ 150000 < p then (0, 5) else upQ a (p.tdiv 10000)
def quoG (a b : Int) : Int × Int := if b = 0 then (0, 6) else (if wholeB (a.tdiv b) = true then a.tdiv b * 10000 else 0, if wholeB (a.tdiv b) = true then 0 else 5)
def gcdG (a b : Int) : Int × Int := if a.tmod 10000 ≠ 0 ∨ b.tmod 10000 ≠ 0 ∨ a < 0 ∨ b < 0 then (0, 5) else ((Nat.gcd a.toNat b.toNat : Nat), 0)
def ratG (a b : Int) : Int × Int := if b = 0 then (0, 6) else (frN (ratW a b), frE (ratW a b))
def evenV (a : Int) : Vl := if a.tmod 10000 ≠ 0 then vE 2 else vB (decide (a.tmod 20000 = 0))

theorem told_ok (n : Int) : toldV (n, 0) = vN n := rfl
theorem told_bad : toldV (0, 5) = vE 2 := rfl
theorem told_pow (a b : Int) : toldV (powG a b) = powV a b := by
  unfold powG powV powP
  split
  · exact told_bad
  · generalize powL a (b.tdiv 10000).natAbs 10000 = r
    by_cases h : r.2 = 0
    · by_cases hb : b < 0
      · rw [if_neg (by rintro (h' | h') <;> omega), if_neg (by omega), if_pos hb]
      · rw [if_pos (Or.inr (by omega)), if_neg (by omega), if_neg hb]
        unfold toldV
        rw [if_neg (by omega), if_pos h]
    · rw [if_pos (Or.inl h), if_pos h]
theorem one_abs (a : Int) : oneV [65, 66, 83] a = toldV (absG a) := by unfold oneV; rw [if_pos rfl]; rfl
theorem one_sign (a : Int) : oneV [83, 73, 71, 78] a = toldV (signG a) := by
  unfold oneV signG
  rw [if_neg (by decide), if_pos rfl, told_ok]
  split
  · rfl
  · split <;> rfl
theorem one_int (a : Int) : oneV [73, 78, 84] a = toldV (floorG a) := by unfold oneV; rw [if_neg (by decide), if_neg (by decide), if_pos rfl]; rfl
theorem one_trunc (a : Int) : oneV [84, 82, 85, 78, 67] a = toldV (truncG a) := by
  unfold oneV truncG
  rw [if_neg (by decide), if_neg (by decide), if_neg (by decide), if_pos rfl, told_ok]
  have := Int.tdiv_mul_add_tmod a 10000
  rw [show a - a.tmod 10000 = a.tdiv 10000 * 10000 by omega]
theorem one_sqrt (a : Int) : oneV [83, 81, 82, 84] a = toldV (sqrtG a) := by
  unfold oneV sqrtG
  rw [if_neg (by decide), if_neg (by decide), if_neg (by decide), if_neg (by decide), if_pos rfl]
  split <;> rfl
theorem one_fact (a : Int) : oneV [70, 65, 67, 84] a = toldV (factG a) := by
  unfold oneV factG factV
  rw [if_neg (by decide), if_neg (by decide), if_neg (by decide), if_neg (by decide), if_neg (by decide), if_pos rfl]
  split <;> rfl
theorem one_even (a : Int) : oneV [69, 86, 69, 78] a = evenV a := by
  unfold oneV evenV
  rw [if_neg (by decide), if_neg (by decide), if_neg (by decide), if_neg (by decide), if_neg (by decide), if_neg (by decide)]
theorem two_round (a b : Int) : twoV [82, 79, 85, 78, 68] a b = toldV (rndG a b) := by
  unfold twoV rndG
  rw [if_pos (Or.inl rfl)]
  split
  · rfl
  · rw [if_neg (by decide)]
theorem two_up (a b : Int) : twoV [82, 79, 85, 78, 68, 85, 80] a b = toldV (upG a b) := by
  unfold twoV upG upQ upV
  rw [if_pos (Or.inr rfl)]
  split
  · rfl
  · rw [if_pos rfl]
    split <;> rfl
theorem two_mod (a b : Int) : twoV [77, 79, 68] a b = toldV (modR a b) := by unfold twoV; rw [if_neg (by decide), if_pos rfl]
theorem two_quo (a b : Int) : twoV [81, 85, 79, 84, 73, 69, 78, 84] a b = toldV (quoG a b) := by
  unfold twoV quoV quoG
  rw [if_neg (by decide), if_neg (by decide), if_pos rfl]
  split
  · rfl
  · cases wholeB (a.tdiv b)
    · rfl
    · rw [if_pos rfl, if_pos rfl, if_pos rfl, told_ok, Int.mul_comm]
theorem two_power (a b : Int) : twoV [80, 79, 87, 69, 82] a b = toldV (powG a b) := by
  unfold twoV
  rw [if_neg (by decide), if_neg (by decide), if_neg (by decide), if_pos rfl, told_pow]
theorem two_gcd (a b : Int) : twoV [71, 67, 68] a b = toldV (gcdG a b) := by
  unfold twoV gcdV gcdG
  rw [if_neg (by decide), if_neg (by decide), if_neg (by decide), if_neg (by decide), if_pos rfl]
  split <;> rfl
theorem two_ratio (a b : Int) : twoV [82, 65, 84, 73, 79] a b = toldV (ratG a b) := by
  unfold twoV ratV ratG
  rw [if_neg (by decide), if_neg (by decide), if_neg (by decide), if_neg (by decide), if_neg (by decide)]
  split <;> rfl
theorem floor_whole (a : Int) (h1 : -9000000000000000000 ≤ a) (h2 : a ≤ 9000000000000000000) : (floorV a == a) = decide (a.tmod 10000 = 0) := by
  have hg : goodB a = true := (goodB_iff a).2 ⟨h1, h2⟩
  unfold floorV
  rw [if_pos hg]
  obtain ⟨p1, p2, k, hk⟩ := modV_pos a 10000 (by omega)
  have hm : modV a 10000 = 0 ↔ a.tmod 10000 = 0 := by
    have e : a.tmod 10000 = 0 ↔ a % 10000 = 0 := by rw [← Int.dvd_iff_tmod_eq_zero, ← Int.dvd_iff_emod_eq_zero]
    rw [e]
    omega
  by_cases h : a.tmod 10000 = 0
  · rw [decide_eq_true h, beq_iff_eq, hm.2 h, Int.sub_zero]
  · rw [decide_eq_false h, beq_eq_false_iff_ne]
    intro h'
    exact h (hm.1 (by omega))
theorem whole_is (a : Int) (h1 : -9000000000000000000 ≤ a) (h2 : a ≤ 9000000000000000000) : wholeV a = a.tdiv 10000 := by
  unfold wholeV
  rw [if_pos ((goodB_iff a).2 ⟨h1, h2⟩)]
theorem tdiv_range (a : Int) (h1 : -9000000000000000000 ≤ a) (h2 : a ≤ 9000000000000000000) : -900000000000000 ≤ a.tdiv 10000 ∧ a.tdiv 10000 ≤ 900000000000000 := by
  have := Int.tdiv_mul_add_tmod a 10000
  have h : (a.tmod 10000).natAbs = a.natAbs % 10000 := Int.natAbs_tmod a 10000
  have h3 : a.natAbs % 10000 < 10000 := Nat.mod_lt _ (by omega)
  rcases Int.lt_or_le a 0 with h4 | h4
  · have : a.tmod 10000 ≤ 0 := by
      have := Int.neg_tmod (-a) 10000
      have := Int.tmod_nonneg 10000 (show 0 ≤ -a by omega)
      rw [Int.neg_neg] at *
      omega
    omega
  · have := Int.tmod_nonneg 10000 h4
    omega
end Go.Proofs.YtbeijnflfmjgfaaGreatDoor
