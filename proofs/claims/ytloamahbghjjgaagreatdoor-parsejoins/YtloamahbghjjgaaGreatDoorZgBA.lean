/- The walk of ParseJoins. -/
import Derived.BigQuiet
import Derived.BigRegion
import Derived.ChangeAlike
import Derived.Deep.AppendLies
import Derived.Deep.CutBlock
import Derived.Deep.CutRange
import Derived.Deep.DeepFit
import Derived.Deep.MidRow
import Derived.Deep.QuietTactic
import Derived.Deep.RegionHeld3
import Derived.Deep.RegionLaw
import Derived.Deep.RegionWith
import Derived.Deep.WholeRow
import Derived.Defers
import Derived.Great.BuildSlice
import Derived.Laws.Bits64b
import Derived.Laws.CopyOwn
import Derived.Laws.IdiomStrings
import Derived.Laws.OwnMore
import Derived.Laws.Rows
import Derived.Laws.StructEq
import Derived.Laws.Tables
import Derived.Lib.Atoi
import Derived.Lib.AtoiErrMem
import Derived.Lib.BitFns
import Derived.Lib.CutLaws
import Derived.Lib.IndexMore
import Derived.Lib.ItoaMem
import Derived.Lib.ItoaNum
import Derived.Lib.Join
import Derived.Lib.Replace
import Derived.Lib.Walk
import Derived.LoopIn
import Derived.LoopNIn
import Derived.OwnWalkIn
import Derived.RangeFuncBound
import Derived.RangeFuncCalls
import Derived.RangeFuncLeaves
import Derived.RangeFuncNested
import Derived.Recover
import Derived.RegionTactic
import Derived.Shelf.Abstract
import Derived.Shelf.Bits.Mul64
import Derived.Shelf.LaysM
import Derived.Shelf.RegionOpen
import Derived.Shelf.Small.Bits
import Derived.Shelf.Small.Strs
import Derived.Shelf.Small.Utf8
import Derived.Shelf.Small.Wraps
import Derived.Shelf.Strconv.Atoi
import Derived.Shelf.Strconv.Itoa0
import Derived.Shelf.Strconv.Itoa1
import Derived.Shelf.Strconv.Itoa2
import Derived.Shelf.Strconv.Itoa3
import Derived.Shelf.Strings.AsciiSet
import Derived.Shelf.Strings.Builder1
import Derived.Shelf.Strings.Builder2
import Derived.Shelf.Strings.Count
import Derived.Shelf.Strings.Cut
import Derived.Shelf.Strings.OnBuilder
import Derived.Shelf.Strings.Prefix
import Derived.Shelf.Strings.Replace
import Derived.Shelf.Strings.Runes
import Derived.Shelf.Strings.Search1
import Derived.Shelf.Strings.Search2
import Derived.Shelf.Strings.Search3
import Derived.Shelf.Strings.Shaped
import Derived.Shelf.Strings.Split
import Derived.Shelf.Strings.SplitShaped
import Derived.Shelf.Strings.Trim
import Derived.Shelf.Unicode.DecodeSlow
import Derived.TacticsInMore
import Derived.Test.YtloamahbghjjgaaGreatDoorProg
import Derived.Test.YtloamahbghjjgaaGreatDoorRows
import Derived.WalkKit
import Derived.WalkLawsBesides
import Derived.WalkSmall
import Derived.WalkSpells
import Derived.Test.YtloamahbghjjgaaGreatDoorZgAA
import Derived.Test.YtloamahbghjjgaaGreatDoorZgAB
import Derived.Test.YtloamahbghjjgaaGreatDoorZgAC
import Derived.Test.YtloamahbghjjgaaGreatDoorZgAD
import Derived.Test.YtloamahbghjjgaaGreatDoorZgAE
import Derived.Test.YtloamahbghjjgaaGreatDoorZgAF
import Derived.Test.YtloamahbghjjgaaGreatDoorZgAG
import Derived.Test.YtloamahbghjjgaaGreatDoorZgAH
import Derived.Test.YtloamahbghjjgaaGreatDoorZgAI
import Derived.Test.YtloamahbghjjgaaGreatDoorZgAJ
import Derived.Test.YtloamahbghjjgaaGreatDoorZgAK
import Derived.Test.YtloamahbghjjgaaGreatDoorZgAL
import Derived.Test.YtloamahbghjjgaaGreatDoorZgAM
import Derived.Test.YtloamahbghjjgaaGreatDoorZgAN
import Derived.Test.YtloamahbghjjgaaGreatDoorZgAO
import Derived.Test.YtloamahbghjjgaaGreatDoorZgAP
import Derived.Test.YtloamahbghjjgaaGreatDoorZgAQ
import Derived.Test.YtloamahbghjjgaaGreatDoorZgAR
import Derived.Test.YtloamahbghjjgaaGreatDoorZgAS
import Derived.Test.YtloamahbghjjgaaGreatDoorZgAT
import Derived.Test.YtloamahbghjjgaaGreatDoorZgAU
import Derived.Test.YtloamahbghjjgaaGreatDoorZgAV
import Derived.Test.YtloamahbghjjgaaGreatDoorZgAW
import Derived.Test.YtloamahbghjjgaaGreatDoorZgAY
namespace Go.Proofs.YtloamahbghjjgaaGreatDoor
open Go.RowKit

theorem nodesIn_take {w : World} {a : Option Addr} {xs ys : List Nd} (h : NodesIn w a (xs ++ ys)) : NodesIn w a xs := by
  rcases h with h | ⟨g, off, ps, rfl, hg, hp, hc, hk⟩
  · exact Or.inl (List.append_eq_nil_iff.1 h).1
  · refine Or.inr ⟨g, off, ps.take xs.length, rfl, hg, ?_, fun i p hi => hc i p ?_, fun p hp' => hk p (List.mem_of_mem_take hp')⟩
    · rw [List.map_take, hp, List.take_left]
    · rw [List.getElem?_take] at hi
      split at hi
      · exact hi
      · cases hi
theorem join_len (a b : List Nd) (n : Nd) : (joinT a b n).length = a.length + b.length + 1 := by
  unfold joinT; simp; omega
theorem join_mid {a b : List Nd} {n nd : Nd} {i : Nat} (h : b[i]? = some nd) : (joinT a b n)[a.length + i]? = some (nd.up a.length) := by
  unfold joinT
  rw [List.getElem?_append_right (by omega), show a.length + i - a.length = i by omega, List.getElem?_append_left, List.getElem?_map, h]
  · rfl
  · rw [List.length_map]; exact (List.getElem?_eq_some_iff.1 h).1
theorem join_last (a b : List Nd) (n : Nd) : (joinT a b n)[a.length + b.length]? = some n := by
  unfold joinT
  rw [List.getElem?_append_right (by omega), List.getElem?_append_right (by rw [List.length_map]; omega), List.length_map]
  rw [show a.length + b.length - a.length - b.length = 0 by omega]; rfl
abbrev opsV : Array Value := #[.string ⟨#[61]⟩, .string ⟨#[60, 62]⟩, .string ⟨#[60]⟩, .string ⟨#[60, 61]⟩, .string ⟨#[62]⟩, .string ⟨#[62, 61]⟩, .string ⟨#[38]⟩, .string ⟨#[43]⟩, .string ⟨#[45]⟩, .string ⟨#[42]⟩, .string ⟨#[47]⟩, .string ⟨#[94]⟩]
theorem bs_toList (l : List UInt8) : (bs l).toList = l := by rw [ByteArray.toList_eq, bs_list]
theorem ops_at (K : Nat) (h : K < 12) : ∃ op, op ∈ opsL ∧ opsV[K]? = some (.string (bs op)) ∧ op.length ≤ 2 ∧ (op == [70]) = false ∧ (([70] : List UInt8) == op) = false := by
  match K, h with
  | 0, _ => exact ⟨[61], by decide, rfl, by decide, by decide, by decide⟩
  | 1, _ => exact ⟨[60, 62], by decide, rfl, by decide, by decide, by decide⟩
  | 2, _ => exact ⟨[60], by decide, rfl, by decide, by decide, by decide⟩
  | 3, _ => exact ⟨[60, 61], by decide, rfl, by decide, by decide, by decide⟩
  | 4, _ => exact ⟨[62], by decide, rfl, by decide, by decide, by decide⟩
  | 5, _ => exact ⟨[62, 61], by decide, rfl, by decide, by decide, by decide⟩
  | 6, _ => exact ⟨[38], by decide, rfl, by decide, by decide, by decide⟩
  | 7, _ => exact ⟨[43], by decide, rfl, by decide, by decide, by decide⟩
  | 8, _ => exact ⟨[45], by decide, rfl, by decide, by decide, by decide⟩
  | 9, _ => exact ⟨[42], by decide, rfl, by decide, by decide, by decide⟩
  | 10, _ => exact ⟨[47], by decide, rfl, by decide, by decide, by decide⟩
  | 11, _ => exact ⟨[94], by decide, rfl, by decide, by decide, by decide⟩
set_option maxRecDepth 100000 in
set_option maxHeartbeats 16000000 in
theorem parseJoins_law (s t : ByteArray) (n : Int) (w : World) (hs : s.size ≤ maxLen) (ht : t.size ≤ maxLen) (hn : (Lit.int .u8 n).wf = true) (he : Env5 w) :
    Calls Tryz.prog 6 #[.string s, .string t, .int .u8 n] w fun e w' => e = .returned (.bool true) ∧ Below w.heap.size w w' := by
  have HE := hide he
  clear he
  unfold maxLen at hs ht
  have hn : 0 ≤ n ∧ n ≤ 255 := by simpa [Lit.wf, IntKind.min, IntKind.max, IntKind.bits, IntKind.signed] using hn
  have HWK := hide wakes6
  go_enter Tryz.func6, Tryz.ntmps6
  go_upto_region 1 with fail
  have HB0 := hide (Below.refl w.heap.size w)
  go_cut [0, 1] from 20 to 29 (fun x y wx => x = .string (s.extract 0 (min (s.size : Int) 200).toNat) ∧ y = .string (t.extract 0 (min (t.size : Int) 200).toNat) ∧ Hid (Below w.heap.size w wx))
  case first =>
    replace HB0 := hide (unhide HB0).drew
    go_region
    all_goals (try go_wp2_with fail)
    all_goals go_meet
    all_goals exact ⟨rfl, rfl, HB0⟩
  case rest =>
    obtain ⟨rfl, rfl, HB⟩ := hcut
    clear HB0
    have HZ1 := cutN s 200
    have HZ2 := cutN t 200
    rw [show ((200 : Nat) : Int) = 200 from rfl] at HZ1 HZ2
    generalize s.extract 0 (min (s.size : Int) 200).toNat = b at HZ1 ⊢
    generalize t.extract 0 (min (t.size : Int) 200).toNat = d at HZ2 ⊢
    obtain ⟨l, rfl⟩ : ∃ l, b = bs l := ⟨_, bs_of b⟩
    obtain ⟨m, rfl⟩ : ∃ m, d = bs m := ⟨_, bs_of d⟩
    rw [bs_size] at HZ1 HZ2
    clear hs ht
    obtain ⟨K, hK, hK2⟩ : ∃ K : Nat, n % 12 = (K : Int) ∧ K < 12 := ⟨(n % 12).toNat, by omega, by omega⟩
    obtain ⟨op, hop, hopc, hopl, hopn, hopn2⟩ := ops_at K hK2
    have HOP := hide hop
    rw [← bs_toList op] at hopn hopn2
    have xop : (wc.alloc (.cells opsV 9)).cell? ⟨wc.heap.size, K, none⟩ = some (.string (bs op)) := cells_c (cells_new wc 9 opsV) K _ hopc
    unfold opsV at xop
    have hK12 : (K : Int) < 12 := by omega
    have hK0 : (0 : Int) ≤ (K : Int) := by omega
    go_upto_region 3 with fail
    have HB1 := hide (below_nx (unhide HB) (below_al wc (.cells opsV 9)))
    generalize wc.alloc (.cells opsV 9) = wa at HB1 ⊢
    replace HB := HB1
    clear xop HB1 hopc hK hK2 hK12 hK0 hn
    have H1 := hide (fun w he => parse_val (bs l) w (by rw [bs_size]; omega) he)
    have H2 := hide (fun w he => parse_val (bs m) w (by rw [bs_size]; omega) he)
    have HPW1 := hide (fun w he => parse_val (bs (40 :: (l ++ [41]) ++ (op ++ 40 :: (m ++ [41])))) w (by rw [bs_size]; simp; omega) he)
    have HPW2 := hide (fun w he => parse_val (bs (102 :: 40 :: ((l ++ 44 :: m) ++ [41]))) w (by rw [bs_size]; simp; omega) he)
    rw [bs_list] at H1 H2 HPW1 HPW2
    have HJ1 := hide (fun a b (ha : parseL l = (a, 0)) (hb : parseL m = (b, 0)) => join_bin ha hb HZ1 HZ2 (unhide HOP))
    have HJ2 := hide (fun a b (ha : parseL l = (a, 0)) (hb : parseL m = (b, 0)) => join_call ha hb HZ1 HZ2)
    have HFA := hide (fun nds (h : parseL l = (nds, 0)) => parse_fit h)
    have HFB := hide (fun nds (h : parseL m = (nds, 0)) => parse_fit h)
    obtain ⟨q1, hq1⟩ : ∃ q, parseL l = q := ⟨_, rfl⟩
    obtain ⟨q2, hq2⟩ : ∃ q, parseL m = q := ⟨_, rfl⟩
    rw [hq1] at H1 HJ1 HJ2 HFA
    rw [hq2] at H2 HJ1 HJ2 HFB
    clear hq1 hq2
    obtain ⟨na, x1⟩ := q1
    obtain ⟨nb, x2⟩ := q2
    unfold PaPost at H1 H2
    simp only [] at H1 H2
    go_wp2_with fail
    refine (unhide H1 _ ((unhide HE).below (unhide HB))).mono ?_
    rintro e w1 ⟨v1, rfl, hr, bb⟩
    obtain ⟨pa, capa, rfl, _, hin⟩ := nodes_in hr
    have HIA := hide hin
    replace HB := hide (below_nx (unhide HB) bb)
    clear bb H1 hr hin
    go_wp2_with fail
    refine (unhide H2 _ ((unhide HE).below (unhide HB))).mono ?_
    rintro e w2 ⟨v2, rfl, hr, bb⟩
    obtain ⟨pb, capb, rfl, _, hin⟩ := nodes_in hr
    have HIB := hide hin
    replace HIA := hide (nodesIn_below (unhide HIA) bb)
    replace HB := hide (below_nx (unhide HB) bb)
    clear bb H2 hr hin
    by_cases hx1 : x1 = 0
    · subst hx1
      by_cases hx2 : x2 = 0
      · subst hx2
        obtain ⟨FA, hA1, hA2⟩ := unhide HFA _ rfl
        obtain ⟨FB, hB1, hB2⟩ := unhide HFB _ rfl
        have FA := hide FA
        have FB := hide FB
        have J1 := hide (unhide HJ1 _ _ rfl rfl)
        have J2 := hide (unhide HJ2 _ _ rfl rfl)
        clear HJ1 HJ2 HFA HFB
        have HQ := hide (fun a b cap cap' w h1 h2 => equal6_val a b cap cap' na w h1 h2 (unhide FA).len (unhide FA).kids)
        have HKB := hide (unhide FB).kids
        have HJL := hide (fun n => join_len na nb n)
        have HJM := hide (fun n nd i h => join_mid (a := na) (b := nb) (n := n) (nd := nd) (i := i) h)
        have HJE := hide (fun n => join_last na nb n)
        obtain ⟨N1, hN1⟩ : ∃ N, na.length = N := ⟨_, rfl⟩
        obtain ⟨N2, hN2⟩ : ∃ N, nb.length = N := ⟨_, rfl⟩
        have HN2 := hide hN2
        rw [hN1] at hA1 hA2 HQ HJL HJM HJE J1 J2 ⊢
        rw [hN2] at hB1 hB2 HJL HJE J1 J2 ⊢
        clear hN1 hN2 FA FB
        obtain ⟨N4, hN4⟩ : ∃ N, N1 + N2 = N := ⟨_, rfl⟩
        rw [hN4] at HJL HJE J1 J2
        have h4 : (N1 : Int) + (N2 : Int) = (N4 : Int) := by omega
        have hb4 : N4 ≤ 512 := by omega
        have hb1 : 1 ≤ N4 := by omega
        go_wp2_with fail
        refine (unhide HWK _ ((unhide HE).below (unhide HB))).mono ?_
        rintro e w3 ⟨rfl, bb⟩
        replace HIA := hide (nodesIn_below (unhide HIA) bb)
        replace HIB := hide (nodesIn_below (unhide HIB) bb)
        replace HB := hide (below_nx (unhide HB) bb)
        clear bb HWK
        have l1 : (bs l).size = l.length := bs_size l
        have l2 : (bs m).size = m.length := bs_size m
        have lo : (bs op).size = op.length := bs_size op
        obtain ⟨a1, a1'⟩ := long_no (a := ⟨#[40]⟩) (n := 1) rfl l1 (by omega)
        obtain ⟨A1, e1⟩ : ∃ A, (⟨#[40]⟩ : ByteArray) ++ bs l = A := ⟨_, rfl⟩
        have s1 : A1.size = l.length + 1 := by rw [← e1, ByteArray.size_append, l1]; show 1 + _ = _; omega
        obtain ⟨a2, a2'⟩ := long_no (b := ⟨#[41]⟩) (m := 1) s1 rfl (by omega)
        obtain ⟨A2, e2⟩ : ∃ A, A1 ++ (⟨#[41]⟩ : ByteArray) = A := ⟨_, rfl⟩
        have s2 : A2.size = l.length + 2 := by rw [← e2, ByteArray.size_append, s1]; show _ + 1 = _; omega
        obtain ⟨a3, a3'⟩ := long_no s2 lo (by omega)
        obtain ⟨A3, e3⟩ : ∃ A, A2 ++ bs op = A := ⟨_, rfl⟩
        have s3 : A3.size = l.length + 2 + op.length := by rw [← e3, ByteArray.size_append, s2, lo]
        obtain ⟨a4, a4'⟩ := long_no (b := ⟨#[40]⟩) (m := 1) s3 rfl (by omega)
        obtain ⟨A4, e4⟩ : ∃ A, A3 ++ (⟨#[40]⟩ : ByteArray) = A := ⟨_, rfl⟩
        have s4 : A4.size = l.length + 3 + op.length := by rw [← e4, ByteArray.size_append, s3]; show _ + 1 = _; omega
        obtain ⟨a5, a5'⟩ := long_no s4 l2 (by omega)
        obtain ⟨A5, e5⟩ : ∃ A, A4 ++ bs m = A := ⟨_, rfl⟩
        have s5 : A5.size = l.length + 3 + op.length + m.length := by rw [← e5, ByteArray.size_append, s4, l2]
        obtain ⟨a6, a6'⟩ := long_no (b := ⟨#[41]⟩) (m := 1) s5 rfl (by omega)
        obtain ⟨A6, e6⟩ : ∃ A, A5 ++ (⟨#[41]⟩ : ByteArray) = A := ⟨_, rfl⟩
        obtain ⟨b1, b1'⟩ := long_no (a := ⟨#[102, 40]⟩) (n := 2) rfl l1 (by omega)
        obtain ⟨B1, f1⟩ : ∃ A, (⟨#[102, 40]⟩ : ByteArray) ++ bs l = A := ⟨_, rfl⟩
        have t1 : B1.size = l.length + 2 := by rw [← f1, ByteArray.size_append, l1]; show 2 + _ = _; omega
        obtain ⟨b2, b2'⟩ := long_no (b := ⟨#[44]⟩) (m := 1) t1 rfl (by omega)
        obtain ⟨B2, f2⟩ : ∃ A, B1 ++ (⟨#[44]⟩ : ByteArray) = A := ⟨_, rfl⟩
        have t2 : B2.size = l.length + 3 := by rw [← f2, ByteArray.size_append, t1]; show _ + 1 = _; omega
        obtain ⟨b3, b3'⟩ := long_no t2 l2 (by omega)
        obtain ⟨B3, f3⟩ : ∃ A, B2 ++ bs m = A := ⟨_, rfl⟩
        have t3 : B3.size = l.length + 3 + m.length := by rw [← f3, ByteArray.size_append, t2, l2]
        obtain ⟨b4, b4'⟩ := long_no (b := ⟨#[41]⟩) (m := 1) t3 rfl (by omega)
        obtain ⟨B4, f4⟩ : ∃ A, B3 ++ (⟨#[41]⟩ : ByteArray) = A := ⟨_, rfl⟩
        have HT1 : Hid (bs (40 :: (l ++ [41]) ++ (op ++ 40 :: (m ++ [41]))) = A6) := hide (by
          rw [← e6, ← e5, ← e4, ← e3, ← e2, ← e1]; unfold bs; apply ByteArray.ext; simp)
        have HT2 : Hid (bs (102 :: 40 :: ((l ++ 44 :: m) ++ [41])) = B4) := hide (by
          rw [← f4, ← f3, ← f2, ← f1]; unfold bs; apply ByteArray.ext; simp)
        rw [unhide HT1] at HPW1
        rw [unhide HT2] at HPW2
        clear l1 l2 lo s1 s2 s3 s4 s5 t1 t2 t3 HT1 HT2
        go_wp2_with fail
        clear a1 a1' a2 a2' a3 a3' a4 a4' a5 a5' a6 a6' b1 b1' b2 b2' b3 b3' b4 b4' e1 e2 e3 e4 e5 e6 f1 f2 f3 f4
        have CQ := hide (cells_new w3 9 #[.string A6, .string B4])
        replace HIA := hide (nodesIn_below (unhide HIA) (below_al w3 (.cells #[.string A6, .string B4] 9)))
        replace HIB := hide (nodesIn_below (unhide HIB) (below_al w3 (.cells #[.string A6, .string B4] 9)))
        replace HB := hide (below_nx (unhide HB) (below_al w3 (.cells #[.string A6, .string B4] 9)))
        generalize w3.alloc (.cells #[.string A6, .string B4] 9) = w4 at CQ HIA HIB HB ⊢
        generalize w3.heap.size = Bq at CQ ⊢
        go_loopw [73] (fun i wr => ∃ k : Nat, i = .int .i64 (k : Int) ∧ k ≤ 2 ∧ Hid (CellsAt wr Bq 9 #[.string A6, .string B4]) ∧ Hid (NodesIn wr pa na) ∧ Hid (NodesIn wr pb nb) ∧ Hid (Below w.heap.size w wr)) (fun i _ => 2 - (intOf i).toNat)
        case atStart => exact ⟨0, rfl, by omega, CQ, HIA, HIB, HB⟩
        case round =>
          clear CQ HIA HIB HB
          obtain ⟨k, rfl, hk, CQ, HIA, HIB, HB⟩ := hrel
          by_cases hk2 : k = 2
          · subst hk2
            go_wp2
            go_ret
            exact ⟨rfl, unhide HB⟩
          · rcases (show k = 0 ∨ k = 1 by omega) with h | h
            · subst h
              clear hk hk2
              have xq := cells_c (unhide CQ) 0 _ rfl
              rcases unhide J1 with J | ⟨J, hge⟩ | J
              · rw [J] at HPW1
                unfold PaPost at HPW1
                simp only [] at HPW1
                clear J
                go_wp2_with fail
                refine (unhide HPW1 _ ((unhide HE).below (unhide HB))).mono ?_
                rintro e w6 ⟨v6, rfl, _, b6⟩
                have CQ6 := hide (cells_nx (unhide CQ) b6)
                have HIA6 := hide (nodesIn_below (unhide HIA) b6)
                have HIB6 := hide (nodesIn_below (unhide HIB) b6)
                have HB6 := hide (below_nx (unhide HB) b6)
                clear b6 xq
                go_wp2
                go_roundw
                case rel => exact ⟨0 + 1, by go_num, by omega, CQ6, HIA6, HIB6, HB6⟩
                case measure => simp [intOf]
              · rw [J] at HPW1
                unfold PaPost at HPW1
                simp only [] at HPW1
                have hgi : (256 : Int) ≤ (N4 : Int) := by omega
                clear J
                go_wp2_with fail
                refine (unhide HPW1 _ ((unhide HE).below (unhide HB))).mono ?_
                rintro e w6 ⟨v6, rfl, _, b6⟩
                have CQ6 := hide (cells_nx (unhide CQ) b6)
                have HIA6 := hide (nodesIn_below (unhide HIA) b6)
                have HIB6 := hide (nodesIn_below (unhide HIB) b6)
                have HB6 := hide (below_nx (unhide HB) b6)
                clear b6 xq
                go_wp2
                go_roundw
                case rel => exact ⟨0 + 1, by go_num, by omega, CQ6, HIA6, HIB6, HB6⟩
                case measure => simp [intOf]
              · rw [J] at HPW1
                unfold PaPost at HPW1
                simp only [] at HPW1
                clear J
                obtain ⟨LN, hLN⟩ : ∃ n, binN (opT op) (N1 - 1) (N4 - 1) = n := ⟨_, rfl⟩
                have hkd : LN.kind = 4 := by rw [← hLN]; rfl
                have hlo : LN.op = bs op := by rw [← hLN]; rfl
                have hks : LN.kids = [(N1 : Int) - 1, (N4 : Int) - 1] := by
                  rw [← hLN]
                  show [((N1 - 1 : Nat) : Int), ((N4 - 1 : Nat) : Int)] = _
                  rw [show ((N1 - 1 : Nat) : Int) = (N1 : Int) - 1 by omega, show ((N4 - 1 : Nat) : Int) = (N4 : Int) - 1 by omega]
                rw [hLN] at HPW1
                clear hLN
                have HKD := hide hkd
                have HLO := hide hlo
                have HKS := hide hks
                clear hkd hlo hks
                go_wp2_with fail
                refine (unhide HPW1 _ ((unhide HE).below (unhide HB))).mono ?_
                rintro e w6 ⟨v6, rfl, hr, b6⟩
                obtain ⟨ac, capc, rfl, hcapc, hin⟩ := nodes_in hr
                rw [unhide HJL LN] at hcapc ⊢
                obtain ⟨gc, oc, ke, kce, rfl, hgc, hkce, hie, hce⟩ := node_at hin N4 LN (unhide HJE LN)
                have HIC6 := hide hin
                have HIE6 := hide hie
                have CQ6 := hide (cells_nx (unhide CQ) b6)
                have HIA6 := hide (nodesIn_below (unhide HIA) b6)
                have HIB6 := hide (nodesIn_below (unhide HIB) b6)
                have HB6 := hide (below_nx (unhide HB) b6)
                obtain ⟨csl, hcsl⟩ : ∃ cs, LN.cells (.slice ke LN.kids.length kce) = cs := ⟨_, rfl⟩
                have HSL := hide hcsl
                have zL : csl.size = 19 := by rw [← hcsl]; rfl
                have HINL : Hid ((Tryz.prog.info? 55).map (·.size) = some csl.toList.length) := hide (by rw [infoNs, Array.length_toList, zL])
                have HRL6 := hide (nd_range hce)
                rw [hcsl] at HRL6
                have hcn : (N1 : Int) ≤ (capc : Int) := by omega
                have hcn2 : N1 ≤ capc := by omega
                clear b6 xq hce hcsl hin hie hr hkce HPW1
                go_wp2_with fail
                refine (unhide HQ _ _ _ _ _ (nodesIn_take (xs := na) (ys := nb.map (Nd.up na.length) ++ [LN]) (unhide HIC6)) (unhide HIA6)).mono ?_
                rintro e w7 ⟨rfl, b7⟩
                have HIC7 := hide (nodesIn_below (unhide HIC6) b7)
                have HIE7 := hide (ints_below (unhide HIE6) b7)
                have CQ7 := hide (cells_nx (unhide CQ6) b7)
                have HIA7 := hide (nodesIn_below (unhide HIA6) b7)
                have HIB7 := hide (nodesIn_below (unhide HIB6) b7)
                have HB7 := hide (below_nx (unhide HB6) b7)
                have HRL7 : Hid (w7.rangeAt gc (oc + N4 * 19) csl.toList) := hide (fun j v hv => by rw [b7.cell (p := ⟨gc, oc + N4 * 19 + j, none⟩) hgc]; exact unhide HRL6 j v hv)
                have st := nd_new w7 LN (.slice ke LN.kids.length kce) rfl
                have CL := hide (cells_new w7 ndT (LN.cells (.slice ke LN.kids.length kce)))
                rw [unhide HSL] at st CL
                clear b7 HIC6 HIE6 CQ6 HIA6 HIB6 HB6 HRL6 hgc
                go_upto_region 15 with (refine wpList_load_mid rfl 55 _ rfl gc (oc + N4 * 19) rfl csl.toList _ (unhide HRL7) Tryz.underlying55 rfl (unhide HINL) ?_)
                have b8 := below_al w7 (.cells csl ndT)
                have HIC8 := hide (nodesIn_below (unhide HIC7) b8)
                have HIE8 := hide (ints_below (unhide HIE7) b8)
                have CQ8 := hide (cells_nx (unhide CQ7) b8)
                have HIA8 := hide (nodesIn_below (unhide HIA7) b8)
                have HIB8 := hide (nodesIn_below (unhide HIB7) b8)
                have HB8 := hide (below_nx (unhide HB7) b8)
                clear b8 st HIC7 HIE7 CQ7 HIA7 HIB7 HB7 HRL7
                generalize w7.alloc (.cells csl ndT) = w8 at CL HIC8 HIE8 CQ8 HIA8 HIB8 HB8 ⊢
                generalize w7.heap.size = B8 at CL ⊢
                rw [← unhide HSL] at CL
                obtain ⟨p0, p1, p2, p3, p4, p5, p6, p7, p8, p9, p10, p11, p12, p13, p14, p15, p16, p17, p18⟩ := nd_cells (unhide CL)
                have hl2 : LN.kids.length = 2 := by rw [unhide HKS]; rfl
                rw [unhide HKD] at p0
                rw [unhide HLO] at p1
                rw [hl2] at p18
                clear p2 p3 p4 p5 p6 p7 p8 p9 p10 p11 p12 p13 p14 p15 p16 p17
                obtain ⟨gk, ok, rfl, z0⟩ := ints_at (unhide HIE8) 0 (by rw [hl2]; decide)
                obtain ⟨gk', ok', hk', z1⟩ := ints_at (unhide HIE8) 1 (by rw [hl2]; decide)
                obtain ⟨rfl, rfl⟩ : gk = gk' ∧ ok = ok' := by simpa using hk'
                rw [unhide HKS] at z0 z1
                have z0 : w8.cell? ⟨gk, ok, none⟩ = some (.int .i64 ((N1 : Int) - 1)) := z0
                have z1 : w8.cell? ⟨gk, ok + 1, none⟩ = some (.int .i64 ((N4 : Int) - 1)) := z1
                have hN1i : (1 : Int) ≤ (N1 : Int) := by omega
                have hN4i : (1 : Int) ≤ (N4 : Int) := by omega
                have hNb : (N1 : Int) ≤ 256 := by omega
                have hNc : (N4 : Int) ≤ 512 := by omega
                clear hk' hl2 HSL CL
                go_upto_region 17 with fail
                clear z0 z1 p0 p1 p18
                go_wp2_with fail
                go_loopw [170] (fun i wr2 => ∃ j : Nat, i = .int .i64 (j : Int) ∧ j ≤ N2 ∧ Hid (Below w8.heap.size w8 wr2)) (fun i _ => N2 - (intOf i).toNat)
                case atStart => exact ⟨0, rfl, by omega, hide (Below.refl _ _)⟩
                case round =>
                  obtain ⟨j, rfl, hj, HB2⟩ := hrel
                  by_cases hltj : j < N2
                  · have hltji : (j : Int) < (N2 : Int) := by omega
                    obtain ⟨nd, hnd⟩ : ∃ nd, nb[j]? = some nd := ⟨nb[j]'(by rw [unhide HN2]; exact hltj), List.getElem?_eq_getElem (by rw [unhide HN2]; exact hltj)⟩
                    have hkl := unhide HKB nd (List.mem_of_getElem? hnd)
                    obtain ⟨ga, oa, ka, kca, rfl, hga, hka, hia, hca⟩ := node_at (nodesIn_below (unhide HIB8) (unhide HB2)) j nd hnd
                    obtain ⟨gb, ob, kb, kcb, hgo, hgb, hkb, hib, hcb⟩ := node_at (nodesIn_below (unhide HIC8) (unhide HB2)) (N1 + j) (nd.up N1) (unhide HJM LN nd j hnd)
                    obtain ⟨rfl, rfl⟩ : gc = gb ∧ oc = ob := by simpa using hgo
                    have hkl2 : (nd.up N1).kids.length = nd.kids.length := List.length_map _
                    rw [hkl2] at hcb
                    have HCA := hide (nd_range hca)
                    have HCB : Hid (wr.rangeAt gc (oc + (N1 + j) * 19) (nd.cells (.slice kb nd.kids.length kcb)).toList) := hide (nd_range hcb)
                    have st := nd_new wr nd (.slice ka nd.kids.length kca) rfl
                    have C1 := hide (cells_new wr ndT (nd.cells (.slice ka nd.kids.length kca)))
                    obtain ⟨csa, hcsa⟩ : ∃ cs, nd.cells (.slice ka nd.kids.length kca) = cs := ⟨_, rfl⟩
                    have HSA := hide hcsa
                    have zA : csa.size = 19 := by rw [← hcsa]; rfl
                    rw [hcsa] at HCA st C1
                    have HIN : Hid ((Tryz.prog.info? 55).map (·.size) = some csa.toList.length) := hide (by rw [infoNs, Array.length_toList, zA])
                    clear hcsa hca hcb hia hib hnd hka hkb hgo hkl2
                    have hji : (j : Int) ≤ 256 := by omega
                    go_upto_region 20 with (refine wpList_load_mid rfl 55 _ rfl ga (oa + j * 19) rfl csa.toList _ (unhide HCA) Tryz.underlying55 rfl (unhide HIN) ?_)
                    have HBA := hide (below_al wr (.cells csa ndT))
                    have hz : (wr.alloc (.cells csa ndT)).heap.size = wr.heap.size + 1 := by simp
                    generalize hWA : wr.alloc (.cells csa ndT) = wa2 at C1 HBA hz ⊢
                    obtain ⟨D1, hD1e⟩ : ∃ B1, wr.heap.size = B1 := ⟨_, rfl⟩
                    rw [hD1e] at C1 hz ⊢
                    have st2 := nd_new wa2 nd (.slice kb nd.kids.length kcb) rfl
                    have C2 := hide (cells_new wa2 ndT (nd.cells (.slice kb nd.kids.length kcb)))
                    rw [hz] at st2 C2
                    obtain ⟨csb, hcsb⟩ : ∃ cs, nd.cells (.slice kb nd.kids.length kcb) = cs := ⟨_, rfl⟩
                    have HSB := hide hcsb
                    have zB : csb.size = 19 := by rw [← hcsb]; rfl
                    rw [hcsb] at HCB st2 C2
                    have HCB2 : Hid (wa2.rangeAt gc (oc + (N1 + j) * 19) csb.toList) := hide (fun i v hv => by rw [(unhide HBA).cell (p := ⟨gc, oc + (N1 + j) * 19 + i, none⟩) hgb]; exact unhide HCB i v hv)
                    have HINB : Hid ((Tryz.prog.info? 55).map (·.size) = some csb.toList.length) := hide (by rw [infoNs, Array.length_toList, zB])
                    have C1b := hide (cells_al (unhide C1) (.cells csb ndT))
                    have HBC := hide (below_nx (below_nx (unhide HB2) (unhide HBA)) (below_al wa2 (.cells csb ndT)))
                    clear hcsb st hWA HCA C1 HCB hgb hga
                    go_upto_region 21 with (refine wpList_load_mid rfl 55 _ rfl gc (oc + (N1 + j) * 19) rfl csb.toList _ (unhide HCB2) Tryz.underlying55 rfl (unhide HINB) ?_)
                    generalize hWB : wa2.alloc (.cells csb ndT) = wb at C1b C2 HBC ⊢
                    generalize hD2e : D1 + 1 = D2 at C2 ⊢
                    clear st2 hWB HCB2 HIN HINB zA zB hz hD1e hD2e HBA
                    have HN1 : Hid (∀ w', CellsAt w' D1 ndT csa → CellsAt w' D1 ndT (nd.cells (.slice ka nd.kids.length kca))) := hide (fun w' h => by rw [unhide HSA]; exact h)
                    have HN2' : Hid (∀ w', CellsAt w' D2 ndT csb → CellsAt w' D2 ndT (nd.cells (.slice kb nd.kids.length kcb))) := hide (fun w' h => by rw [unhide HSB]; exact h)
                    obtain ⟨p0, p1, p2, p3, p4, p5, p6, p7, p8, p9, p10, p11, p12, p13, p14, p15, p16, p17, p18⟩ := nd_cells (unhide HN1 _ (unhide C1b))
                    obtain ⟨q0, q1, q2, q3, q4, q5, q6, q7, q8, q9, q10, q11, q12, q13, q14, q15, q16, q17, q18⟩ := nd_cells (unhide HN2' _ (unhide C2))
                    have hv := fun w => vl_ne nd.val nd.val w
                    have hf := fun w => full_ne nd.ref nd.ref w
                    rw [vEq_self] at hv
                    rw [fEq_self] at hf
                    unfold Vl.cells at hv
                    unfold Fl.cells at hf
                    (try simp only [] at hv hf)
                    generalize nd.kids.length = mm at p18 q18 hkl
                    clear HSA HSB HN1 HN2' C1b C2
                    go_wp2
                    go_roundw
                    case rel => exact ⟨j + 1, by go_num, by omega, HBC⟩
                    case measure => simp [intOf]; omega
                  · have hltji : ¬ (j : Int) < (N2 : Int) := by omega
                    have CQ9 := hide (cells_nx (unhide CQ8) (unhide HB2))
                    have HIA9 := hide (nodesIn_below (unhide HIA8) (unhide HB2))
                    have HIB9 := hide (nodesIn_below (unhide HIB8) (unhide HB2))
                    have HB9 := hide (below_nx (unhide HB8) (unhide HB2))
                    go_wp2
                    go_roundw
                    case rel => exact ⟨0 + 1, by go_num, by omega, CQ9, HIA9, HIB9, HB9⟩
                    case measure => simp [intOf]
            · subst h
              clear hk hk2
              have xq := cells_c (unhide CQ) 1 _ rfl
              rcases unhide J2 with J | ⟨J, hge⟩ | J
              · rw [J] at HPW2
                unfold PaPost at HPW2
                simp only [] at HPW2
                clear J
                go_wp2_with fail
                refine (unhide HPW2 _ ((unhide HE).below (unhide HB))).mono ?_
                rintro e w6 ⟨v6, rfl, _, b6⟩
                have CQ6 := hide (cells_nx (unhide CQ) b6)
                have HIA6 := hide (nodesIn_below (unhide HIA) b6)
                have HIB6 := hide (nodesIn_below (unhide HIB) b6)
                have HB6 := hide (below_nx (unhide HB) b6)
                clear b6 xq
                go_wp2
                go_roundw
                case rel => exact ⟨1 + 1, by go_num, by omega, CQ6, HIA6, HIB6, HB6⟩
                case measure => simp [intOf]
              · rw [J] at HPW2
                unfold PaPost at HPW2
                simp only [] at HPW2
                have hgi : (256 : Int) ≤ (N4 : Int) := by omega
                clear J
                go_wp2_with fail
                refine (unhide HPW2 _ ((unhide HE).below (unhide HB))).mono ?_
                rintro e w6 ⟨v6, rfl, _, b6⟩
                have CQ6 := hide (cells_nx (unhide CQ) b6)
                have HIA6 := hide (nodesIn_below (unhide HIA) b6)
                have HIB6 := hide (nodesIn_below (unhide HIB) b6)
                have HB6 := hide (below_nx (unhide HB) b6)
                clear b6 xq
                go_wp2
                go_roundw
                case rel => exact ⟨1 + 1, by go_num, by omega, CQ6, HIA6, HIB6, HB6⟩
                case measure => simp [intOf]
              · rw [J] at HPW2
                unfold PaPost at HPW2
                simp only [] at HPW2
                clear J
                obtain ⟨LN, hLN⟩ : ∃ n, callN fT [N1 - 1, N4 - 1] = n := ⟨_, rfl⟩
                have hkd : LN.kind = 5 := by rw [← hLN]; rfl
                have hlo : LN.op = ⟨#[70]⟩ := by rw [← hLN]; rfl
                have hks : LN.kids = [(N1 : Int) - 1, (N4 : Int) - 1] := by
                  rw [← hLN]
                  show [((N1 - 1 : Nat) : Int), ((N4 - 1 : Nat) : Int)] = _
                  rw [show ((N1 - 1 : Nat) : Int) = (N1 : Int) - 1 by omega, show ((N4 - 1 : Nat) : Int) = (N4 : Int) - 1 by omega]
                rw [hLN] at HPW2
                clear hLN
                have HKD := hide hkd
                have HLO := hide hlo
                have HKS := hide hks
                clear hkd hlo hks
                go_wp2_with fail
                refine (unhide HPW2 _ ((unhide HE).below (unhide HB))).mono ?_
                rintro e w6 ⟨v6, rfl, hr, b6⟩
                obtain ⟨ac, capc, rfl, hcapc, hin⟩ := nodes_in hr
                rw [unhide HJL LN] at hcapc ⊢
                obtain ⟨gc, oc, ke, kce, rfl, hgc, hkce, hie, hce⟩ := node_at hin N4 LN (unhide HJE LN)
                have HIC6 := hide hin
                have HIE6 := hide hie
                have CQ6 := hide (cells_nx (unhide CQ) b6)
                have HIA6 := hide (nodesIn_below (unhide HIA) b6)
                have HIB6 := hide (nodesIn_below (unhide HIB) b6)
                have HB6 := hide (below_nx (unhide HB) b6)
                obtain ⟨csl, hcsl⟩ : ∃ cs, LN.cells (.slice ke LN.kids.length kce) = cs := ⟨_, rfl⟩
                have HSL := hide hcsl
                have zL : csl.size = 19 := by rw [← hcsl]; rfl
                have HINL : Hid ((Tryz.prog.info? 55).map (·.size) = some csl.toList.length) := hide (by rw [infoNs, Array.length_toList, zL])
                have HRL6 := hide (nd_range hce)
                rw [hcsl] at HRL6
                have hcn : (N1 : Int) ≤ (capc : Int) := by omega
                have hcn2 : N1 ≤ capc := by omega
                clear b6 xq hce hcsl hin hie hr hkce HPW2
                go_wp2_with fail
                refine (unhide HQ _ _ _ _ _ (nodesIn_take (xs := na) (ys := nb.map (Nd.up na.length) ++ [LN]) (unhide HIC6)) (unhide HIA6)).mono ?_
                rintro e w7 ⟨rfl, b7⟩
                have HIC7 := hide (nodesIn_below (unhide HIC6) b7)
                have HIE7 := hide (ints_below (unhide HIE6) b7)
                have CQ7 := hide (cells_nx (unhide CQ6) b7)
                have HIA7 := hide (nodesIn_below (unhide HIA6) b7)
                have HIB7 := hide (nodesIn_below (unhide HIB6) b7)
                have HB7 := hide (below_nx (unhide HB6) b7)
                have HRL7 : Hid (w7.rangeAt gc (oc + N4 * 19) csl.toList) := hide (fun j v hv => by rw [b7.cell (p := ⟨gc, oc + N4 * 19 + j, none⟩) hgc]; exact unhide HRL6 j v hv)
                have st := nd_new w7 LN (.slice ke LN.kids.length kce) rfl
                have CL := hide (cells_new w7 ndT (LN.cells (.slice ke LN.kids.length kce)))
                rw [unhide HSL] at st CL
                clear b7 HIC6 HIE6 CQ6 HIA6 HIB6 HB6 HRL6 hgc
                go_upto_region 15 with (refine wpList_load_mid rfl 55 _ rfl gc (oc + N4 * 19) rfl csl.toList _ (unhide HRL7) Tryz.underlying55 rfl (unhide HINL) ?_)
                have b8 := below_al w7 (.cells csl ndT)
                have HIC8 := hide (nodesIn_below (unhide HIC7) b8)
                have HIE8 := hide (ints_below (unhide HIE7) b8)
                have CQ8 := hide (cells_nx (unhide CQ7) b8)
                have HIA8 := hide (nodesIn_below (unhide HIA7) b8)
                have HIB8 := hide (nodesIn_below (unhide HIB7) b8)
                have HB8 := hide (below_nx (unhide HB7) b8)
                clear b8 st HIC7 HIE7 CQ7 HIA7 HIB7 HB7 HRL7
                generalize w7.alloc (.cells csl ndT) = w8 at CL HIC8 HIE8 CQ8 HIA8 HIB8 HB8 ⊢
                generalize w7.heap.size = B8 at CL ⊢
                rw [← unhide HSL] at CL
                obtain ⟨p0, p1, p2, p3, p4, p5, p6, p7, p8, p9, p10, p11, p12, p13, p14, p15, p16, p17, p18⟩ := nd_cells (unhide CL)
                have hl2 : LN.kids.length = 2 := by rw [unhide HKS]; rfl
                rw [unhide HKD] at p0
                rw [unhide HLO] at p1
                rw [hl2] at p18
                clear p2 p3 p4 p5 p6 p7 p8 p9 p10 p11 p12 p13 p14 p15 p16 p17
                obtain ⟨gk, ok, rfl, z0⟩ := ints_at (unhide HIE8) 0 (by rw [hl2]; decide)
                obtain ⟨gk', ok', hk', z1⟩ := ints_at (unhide HIE8) 1 (by rw [hl2]; decide)
                obtain ⟨rfl, rfl⟩ : gk = gk' ∧ ok = ok' := by simpa using hk'
                rw [unhide HKS] at z0 z1
                have z0 : w8.cell? ⟨gk, ok, none⟩ = some (.int .i64 ((N1 : Int) - 1)) := z0
                have z1 : w8.cell? ⟨gk, ok + 1, none⟩ = some (.int .i64 ((N4 : Int) - 1)) := z1
                have hN1i : (1 : Int) ≤ (N1 : Int) := by omega
                have hN4i : (1 : Int) ≤ (N4 : Int) := by omega
                have hNb : (N1 : Int) ≤ 256 := by omega
                have hNc : (N4 : Int) ≤ 512 := by omega
                clear hk' hl2 HSL CL
                go_upto_region 17 with fail
                clear z0 z1 p0 p1 p18
                go_wp2_with fail
                go_loopw [170] (fun i wr2 => ∃ j : Nat, i = .int .i64 (j : Int) ∧ j ≤ N2 ∧ Hid (Below w8.heap.size w8 wr2)) (fun i _ => N2 - (intOf i).toNat)
                case atStart => exact ⟨0, rfl, by omega, hide (Below.refl _ _)⟩
                case round =>
                  obtain ⟨j, rfl, hj, HB2⟩ := hrel
                  by_cases hltj : j < N2
                  · have hltji : (j : Int) < (N2 : Int) := by omega
                    obtain ⟨nd, hnd⟩ : ∃ nd, nb[j]? = some nd := ⟨nb[j]'(by rw [unhide HN2]; exact hltj), List.getElem?_eq_getElem (by rw [unhide HN2]; exact hltj)⟩
                    have hkl := unhide HKB nd (List.mem_of_getElem? hnd)
                    obtain ⟨ga, oa, ka, kca, rfl, hga, hka, hia, hca⟩ := node_at (nodesIn_below (unhide HIB8) (unhide HB2)) j nd hnd
                    obtain ⟨gb, ob, kb, kcb, hgo, hgb, hkb, hib, hcb⟩ := node_at (nodesIn_below (unhide HIC8) (unhide HB2)) (N1 + j) (nd.up N1) (unhide HJM LN nd j hnd)
                    obtain ⟨rfl, rfl⟩ : gc = gb ∧ oc = ob := by simpa using hgo
                    have hkl2 : (nd.up N1).kids.length = nd.kids.length := List.length_map _
                    rw [hkl2] at hcb
                    have HCA := hide (nd_range hca)
                    have HCB : Hid (wr.rangeAt gc (oc + (N1 + j) * 19) (nd.cells (.slice kb nd.kids.length kcb)).toList) := hide (nd_range hcb)
                    have st := nd_new wr nd (.slice ka nd.kids.length kca) rfl
                    have C1 := hide (cells_new wr ndT (nd.cells (.slice ka nd.kids.length kca)))
                    obtain ⟨csa, hcsa⟩ : ∃ cs, nd.cells (.slice ka nd.kids.length kca) = cs := ⟨_, rfl⟩
                    have HSA := hide hcsa
                    have zA : csa.size = 19 := by rw [← hcsa]; rfl
                    rw [hcsa] at HCA st C1
                    have HIN : Hid ((Tryz.prog.info? 55).map (·.size) = some csa.toList.length) := hide (by rw [infoNs, Array.length_toList, zA])
                    clear hcsa hca hcb hia hib hnd hka hkb hgo hkl2
                    have hji : (j : Int) ≤ 256 := by omega
                    go_upto_region 20 with (refine wpList_load_mid rfl 55 _ rfl ga (oa + j * 19) rfl csa.toList _ (unhide HCA) Tryz.underlying55 rfl (unhide HIN) ?_)
                    have HBA := hide (below_al wr (.cells csa ndT))
                    have hz : (wr.alloc (.cells csa ndT)).heap.size = wr.heap.size + 1 := by simp
                    generalize hWA : wr.alloc (.cells csa ndT) = wa2 at C1 HBA hz ⊢
                    obtain ⟨D1, hD1e⟩ : ∃ B1, wr.heap.size = B1 := ⟨_, rfl⟩
                    rw [hD1e] at C1 hz ⊢
                    have st2 := nd_new wa2 nd (.slice kb nd.kids.length kcb) rfl
                    have C2 := hide (cells_new wa2 ndT (nd.cells (.slice kb nd.kids.length kcb)))
                    rw [hz] at st2 C2
                    obtain ⟨csb, hcsb⟩ : ∃ cs, nd.cells (.slice kb nd.kids.length kcb) = cs := ⟨_, rfl⟩
                    have HSB := hide hcsb
                    have zB : csb.size = 19 := by rw [← hcsb]; rfl
                    rw [hcsb] at HCB st2 C2
                    have HCB2 : Hid (wa2.rangeAt gc (oc + (N1 + j) * 19) csb.toList) := hide (fun i v hv => by rw [(unhide HBA).cell (p := ⟨gc, oc + (N1 + j) * 19 + i, none⟩) hgb]; exact unhide HCB i v hv)
                    have HINB : Hid ((Tryz.prog.info? 55).map (·.size) = some csb.toList.length) := hide (by rw [infoNs, Array.length_toList, zB])
                    have C1b := hide (cells_al (unhide C1) (.cells csb ndT))
                    have HBC := hide (below_nx (below_nx (unhide HB2) (unhide HBA)) (below_al wa2 (.cells csb ndT)))
                    clear hcsb st hWA HCA C1 HCB hgb hga
                    go_upto_region 21 with (refine wpList_load_mid rfl 55 _ rfl gc (oc + (N1 + j) * 19) rfl csb.toList _ (unhide HCB2) Tryz.underlying55 rfl (unhide HINB) ?_)
                    generalize hWB : wa2.alloc (.cells csb ndT) = wb at C1b C2 HBC ⊢
                    generalize hD2e : D1 + 1 = D2 at C2 ⊢
                    clear st2 hWB HCB2 HIN HINB zA zB hz hD1e hD2e HBA
                    have HN1 : Hid (∀ w', CellsAt w' D1 ndT csa → CellsAt w' D1 ndT (nd.cells (.slice ka nd.kids.length kca))) := hide (fun w' h => by rw [unhide HSA]; exact h)
                    have HN2' : Hid (∀ w', CellsAt w' D2 ndT csb → CellsAt w' D2 ndT (nd.cells (.slice kb nd.kids.length kcb))) := hide (fun w' h => by rw [unhide HSB]; exact h)
                    obtain ⟨p0, p1, p2, p3, p4, p5, p6, p7, p8, p9, p10, p11, p12, p13, p14, p15, p16, p17, p18⟩ := nd_cells (unhide HN1 _ (unhide C1b))
                    obtain ⟨q0, q1, q2, q3, q4, q5, q6, q7, q8, q9, q10, q11, q12, q13, q14, q15, q16, q17, q18⟩ := nd_cells (unhide HN2' _ (unhide C2))
                    have hv := fun w => vl_ne nd.val nd.val w
                    have hf := fun w => full_ne nd.ref nd.ref w
                    rw [vEq_self] at hv
                    rw [fEq_self] at hf
                    unfold Vl.cells at hv
                    unfold Fl.cells at hf
                    (try simp only [] at hv hf)
                    generalize nd.kids.length = mm at p18 q18 hkl
                    clear HSA HSB HN1 HN2' C1b C2
                    go_wp2
                    go_roundw
                    case rel => exact ⟨j + 1, by go_num, by omega, HBC⟩
                    case measure => simp [intOf]; omega
                  · have hltji : ¬ (j : Int) < (N2 : Int) := by omega
                    have CQ9 := hide (cells_nx (unhide CQ8) (unhide HB2))
                    have HIA9 := hide (nodesIn_below (unhide HIA8) (unhide HB2))
                    have HIB9 := hide (nodesIn_below (unhide HIB8) (unhide HB2))
                    have HB9 := hide (below_nx (unhide HB8) (unhide HB2))
                    go_wp2
                    go_roundw
                    case rel => exact ⟨1 + 1, by go_num, by omega, CQ9, HIA9, HIB9, HB9⟩
                    case measure => simp [intOf]
      · have hne : (x2 != 0) = true := by simpa using hx2
        clear hx2 HJ1 HJ2 HFA HFB
        go_wp2_with fail
        refine (unhide HWK _ ((unhide HE).below (unhide HB))).mono ?_
        rintro e w4 ⟨rfl, bb⟩
        replace HB := hide (below_nx (unhide HB) bb)
        clear bb
        go_wp2_with fail
        refine (unhide HWK _ ((unhide HE).below (unhide HB))).mono ?_
        rintro e w5 ⟨rfl, bb⟩
        replace HB := hide (below_nx (unhide HB) bb)
        clear bb
        go_wp2
        go_ret
        exact ⟨rfl, unhide HB⟩
    · have hne : (x1 != 0) = true := by simpa using hx1
      clear hx1 HJ1 HJ2 HFA HFB
      go_wp2_with fail
      refine (unhide HWK _ ((unhide HE).below (unhide HB))).mono ?_
      rintro e w4 ⟨rfl, bb⟩
      replace HB := hide (below_nx (unhide HB) bb)
      clear bb
      go_wp2_with fail
      refine (unhide HWK _ ((unhide HE).below (unhide HB))).mono ?_
      rintro e w5 ⟨rfl, bb⟩
      replace HB := hide (below_nx (unhide HB) bb)
      clear bb
      go_wp2
      go_ret
      exact ⟨rfl, unhide HB⟩
end Go.Proofs.YtloamahbghjjgaaGreatDoor
