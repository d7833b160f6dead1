/- Two rows of the same nodes are told to be equal. -/
import Derived.BigQuiet
import Derived.BigRegion
import Derived.ChangeAlike
import Derived.Deep.AppendLies
import Derived.Deep.CutBlock
import Derived.Deep.CutRange
import Derived.Deep.DeepFit
import Derived.Deep.MidRow
import Derived.Deep.QuietTactic
import Derived.Deep.RegionHeld3
import Derived.Deep.RegionLaw
import Derived.Deep.RegionWith
import Derived.Deep.WholeRow
import Derived.Defers
import Derived.Great.BuildSlice
import Derived.Laws.Bits64b
import Derived.Laws.CopyOwn
import Derived.Laws.IdiomStrings
import Derived.Laws.OwnMore
import Derived.Laws.Rows
import Derived.Laws.StructEq
import Derived.Laws.Tables
import Derived.Lib.Atoi
import Derived.Lib.AtoiErrMem
import Derived.Lib.BitFns
import Derived.Lib.CutLaws
import Derived.Lib.IndexMore
import Derived.Lib.ItoaMem
import Derived.Lib.ItoaNum
import Derived.Lib.Join
import Derived.Lib.Replace
import Derived.Lib.Walk
import Derived.LoopIn
import Derived.LoopNIn
import Derived.OwnWalkIn
import Derived.RangeFuncBound
import Derived.RangeFuncCalls
import Derived.RangeFuncLeaves
import Derived.RangeFuncNested
import Derived.Recover
import Derived.RegionTactic
import Derived.Shelf.Abstract
import Derived.Shelf.Bits.Mul64
import Derived.Shelf.LaysM
import Derived.Shelf.RegionOpen
import Derived.Shelf.Small.Bits
import Derived.Shelf.Small.Strs
import Derived.Shelf.Small.Utf8
import Derived.Shelf.Small.Wraps
import Derived.Shelf.Strconv.Atoi
import Derived.Shelf.Strconv.Itoa0
import Derived.Shelf.Strconv.Itoa1
import Derived.Shelf.Strconv.Itoa2
import Derived.Shelf.Strconv.Itoa3
import Derived.Shelf.Strings.AsciiSet
import Derived.Shelf.Strings.Builder1
import Derived.Shelf.Strings.Builder2
import Derived.Shelf.Strings.Count
import Derived.Shelf.Strings.Cut
import Derived.Shelf.Strings.OnBuilder
import Derived.Shelf.Strings.Prefix
import Derived.Shelf.Strings.Replace
import Derived.Shelf.Strings.Runes
import Derived.Shelf.Strings.Search1
import Derived.Shelf.Strings.Search2
import Derived.Shelf.Strings.Search3
import Derived.Shelf.Strings.Shaped
import Derived.Shelf.Strings.Split
import Derived.Shelf.Strings.SplitShaped
import Derived.Shelf.Strings.Trim
import Derived.Shelf.Unicode.DecodeSlow
import Derived.TacticsInMore
import Derived.Test.YtloamahbghjjgaaGreatDoorProg
import Derived.Test.YtloamahbghjjgaaGreatDoorRows
import Derived.WalkKit
import Derived.WalkLawsBesides
import Derived.WalkSmall
import Derived.WalkSpells
import Derived.Test.YtloamahbghjjgaaGreatDoorZgAA
import Derived.Test.YtloamahbghjjgaaGreatDoorZgAB
import Derived.Test.YtloamahbghjjgaaGreatDoorZgAC
import Derived.Test.YtloamahbghjjgaaGreatDoorZgAD
import Derived.Test.YtloamahbghjjgaaGreatDoorZgAE
import Derived.Test.YtloamahbghjjgaaGreatDoorZgAF
import Derived.Test.YtloamahbghjjgaaGreatDoorZgAG
import Derived.Test.YtloamahbghjjgaaGreatDoorZgAH
import Derived.Test.YtloamahbghjjgaaGreatDoorZgAI
import Derived.Test.YtloamahbghjjgaaGreatDoorZgAJ
import Derived.Test.YtloamahbghjjgaaGreatDoorZgAK
import Derived.Test.YtloamahbghjjgaaGreatDoorZgAL
import Derived.Test.YtloamahbghjjgaaGreatDoorZgAM
import Derived.Test.YtloamahbghjjgaaGreatDoorZgAN
import Derived.Test.YtloamahbghjjgaaGreatDoorZgAO
import Derived.Test.YtloamahbghjjgaaGreatDoorZgAP
import Derived.Test.YtloamahbghjjgaaGreatDoorZgAQ
import Derived.Test.YtloamahbghjjgaaGreatDoorZgAR
import Derived.Test.YtloamahbghjjgaaGreatDoorZgAS
import Derived.Test.YtloamahbghjjgaaGreatDoorZgAT
import Derived.Test.YtloamahbghjjgaaGreatDoorZgAU
import Derived.Test.YtloamahbghjjgaaGreatDoorZgAV
import Derived.Test.YtloamahbghjjgaaGreatDoorZgAW
namespace Go.Proofs.YtloamahbghjjgaaGreatDoor
open Go.RowKit

theorem fEq_self (x : Fl) : fEq x x = true := by
  unfold fEq rEq; simp
theorem vEq_self (x : Vl) : vEq x x = true := by
  unfold vEq; simp
theorem ne_of_eq {T : TypeId} {x y : Array Value} {w : World} {b : Bool} (h : (binOp .eql T (.agg x) (.agg y)).run Tryz.prog w = .ok (.bool b) w) : (binOp .neq T (.agg x) (.agg y)).run Tryz.prog w = .ok (.bool (!b)) w := by
  rw [run_eql_struct] at h
  rw [run_neq_struct]
  cases hr : (Op.equalIn 10000 T (.agg x) (.agg y)).run Tryz.prog w with
  | ok c w' =>
    rw [hr] at h
    simp only [Result.andThen] at h ⊢
    cases h
    rfl
  | _ => rw [hr] at h; simp only [Result.andThen] at h; cases h
theorem full_ne (a b : Fl) (w : World) : (binOp .neq fuT (.agg a.cells) (.agg b.cells)).run Tryz.prog w = .ok (.bool (!fEq a b)) w := ne_of_eq (full_eq a b w)
theorem vl_ne (a b : Vl) (w : World) : (binOp .neq 46 (.agg a.cells) (.agg b.cells)).run Tryz.prog w = .ok (.bool (!vEq a b)) w := ne_of_eq (vl_eq a.kind a.num a.text a.tr a.fail b.kind b.num b.text b.tr b.fail w)
set_option maxRecDepth 100000 in
set_option maxHeartbeats 8000000 in
theorem equal6_val (a b : Option Addr) (cap cap' : Nat) (nds : List Nd) (w : World) (ha : NodesIn w a nds) (hb : NodesIn w b nds) (hl : nds.length ≤ 1000) (hk : ∀ n ∈ nds, n.kids.length ≤ 1000) :
    Calls Tryz.prog 21 #[.slice a nds.length cap, .slice b nds.length cap'] w fun e w' => e = .returned (.bool true) ∧ Below w.heap.size w w' := by
  have HA := hide ha
  have HBB := hide hb
  have HK := hide hk
  clear ha hb hk
  obtain ⟨n, hnl⟩ : ∃ n, nds.length = n := ⟨_, rfl⟩
  have HNL := hide hnl
  rw [hnl] at hl ⊢
  clear hnl
  go_enter Tryz.func21, Tryz.ntmps21
  go_wp2_with fail
  go_loopw [16] (fun i wr => ∃ k : Nat, i = .int .i64 (k : Int) ∧ k ≤ n ∧ Hid (Below w.heap.size w wr)) (fun i _ => n - (intOf i).toNat)
  case atStart => exact ⟨0, rfl, by omega, hide (Below.refl _ _)⟩
  case round =>
    obtain ⟨k, rfl, hkn, HB⟩ := hrel
    by_cases hlt : k < n
    · have hlti : (k : Int) < (n : Int) := by omega
      obtain ⟨nd, hnd⟩ : ∃ nd, nds[k]? = some nd := ⟨nds[k]'(by rw [unhide HNL]; exact hlt), List.getElem?_eq_getElem (by rw [unhide HNL]; exact hlt)⟩
      have hkl := unhide HK nd (List.mem_of_getElem? hnd)
      obtain ⟨ga, oa, ka, kca, rfl, hga, hka, hia, hca⟩ := node_at (nodesIn_below (unhide HA) (unhide HB)) k nd hnd
      obtain ⟨gb, ob, kb, kcb, rfl, hgb, hkb, hib, hcb⟩ := node_at (nodesIn_below (unhide HBB) (unhide HB)) k nd hnd
      have HCA := hide (nd_range hca)
      have HCB := hide (nd_range hcb)
      have HIA := hide hia
      have HIB := hide hib
      have hgb' := hgb
      have st := nd_new wr nd (.slice ka nd.kids.length kca) rfl
      have C1 := hide (cells_new wr ndT (nd.cells (.slice ka nd.kids.length kca)))
      obtain ⟨csa, hcsa⟩ : ∃ cs, nd.cells (.slice ka nd.kids.length kca) = cs := ⟨_, rfl⟩
      have HSA := hide hcsa
      have zA : csa.size = 19 := by rw [← hcsa]; rfl
      rw [hcsa] at HCA st C1
      have HIN : Hid ((Tryz.prog.info? 55).map (·.size) = some csa.toList.length) := hide (by rw [infoNs, Array.length_toList, zA])
      clear hcsa hca hcb hia hib hnd hka hkb
      go_upto_region 6 with (refine wpList_load_mid rfl 55 _ rfl ga (oa + k * 19) rfl csa.toList _ (unhide HCA) Tryz.underlying55 rfl (unhide HIN) ?_)
      have HBA := hide (below_al wr (.cells csa ndT))
      have hz : (wr.alloc (.cells csa ndT)).heap.size = wr.heap.size + 1 := by simp
      have hB1 : wr.heap.size < wr.heap.size + 1 := by omega
      generalize hWA : wr.alloc (.cells csa ndT) = wa at C1 HBA hz ⊢
      obtain ⟨B1, hB1e⟩ : ∃ B1, wr.heap.size = B1 := ⟨_, rfl⟩
      rw [hB1e] at C1 hz ⊢
      have st2 := nd_new wa nd (.slice kb nd.kids.length kcb) rfl
      have C2 := hide (cells_new wa ndT (nd.cells (.slice kb nd.kids.length kcb)))
      rw [hz] at st2 C2
      obtain ⟨csb, hcsb⟩ : ∃ cs, nd.cells (.slice kb nd.kids.length kcb) = cs := ⟨_, rfl⟩
      have HSB := hide hcsb
      have zB : csb.size = 19 := by rw [← hcsb]; rfl
      rw [hcsb] at HCB st2 C2
      have HCB2 : Hid (wa.rangeAt gb (ob + k * 19) csb.toList) := hide (fun j v hv => by rw [(unhide HBA).cell (p := ⟨gb, ob + k * 19 + j, none⟩) hgb']; exact unhide HCB j v hv)
      have HIN2 : Hid ((Tryz.prog.info? 55).map (·.size) = some csb.toList.length) := hide (by rw [infoNs, Array.length_toList, zB])
      have C1b := hide (cells_al (unhide C1) (.cells csb ndT))
      have HBC := hide (below_nx (below_nx (unhide HB) (unhide HBA)) (below_al wa (.cells csb ndT)))
      have HIA2 := hide (ints_below (unhide HIA) (below_nx (unhide HBA) (below_al wa (.cells csb ndT))))
      have HIB2 := hide (ints_below (unhide HIB) (below_nx (unhide HBA) (below_al wa (.cells csb ndT))))
      clear hcsb st hWA HCA C1 HCB HIA HIB
      go_upto_region 7 with (refine wpList_load_mid rfl 55 _ rfl gb (ob + k * 19) rfl csb.toList _ (unhide HCB2) Tryz.underlying55 rfl (unhide HIN2) ?_)
      generalize hWB : wa.alloc (.cells csb ndT) = wb at C1b C2 HBC HIA2 HIB2 ⊢
      generalize hB2e : B1 + 1 = B2 at C2 ⊢
      clear st2 hWB HCB2 HIN HIN2 zA zB hz hB1 hB1e hB2e hgb hgb'
      have HN1 : Hid (∀ w', CellsAt w' B1 ndT csa → CellsAt w' B1 ndT (nd.cells (.slice ka nd.kids.length kca))) := hide (fun w' h => by rw [unhide HSA]; exact h)
      have HN2 : Hid (∀ w', CellsAt w' B2 ndT csb → CellsAt w' B2 ndT (nd.cells (.slice kb nd.kids.length kcb))) := hide (fun w' h => by rw [unhide HSB]; exact h)
      obtain ⟨p0, p1, p2, p3, p4, p5, p6, p7, p8, p9, p10, p11, p12, p13, p14, p15, p16, p17, p18⟩ := nd_cells (unhide HN1 _ (unhide C1b))
      obtain ⟨q0, q1, q2, q3, q4, q5, q6, q7, q8, q9, q10, q11, q12, q13, q14, q15, q16, q17, q18⟩ := nd_cells (unhide HN2 _ (unhide C2))
      have hv := fun w => vl_ne nd.val nd.val w
      have hf := fun w => full_ne nd.ref nd.ref w
      rw [vEq_self] at hv
      rw [fEq_self] at hf
      unfold Vl.cells at hv
      unfold Fl.cells at hf
      (try simp only [] at hv hf)
      obtain ⟨m, hm⟩ : ∃ m, nd.kids.length = m := ⟨_, rfl⟩
      have HM := hide hm
      rw [hm] at p18 q18 hkl
      have HP18 := hide (fun w' h => (nd_cells (unhide HN1 w' h)).2.2.2.2.2.2.2.2.2.2.2.2.2.2.2.2.2.2)
      have HQ18 := hide (fun w' h => (nd_cells (unhide HN2 w' h)).2.2.2.2.2.2.2.2.2.2.2.2.2.2.2.2.2.2)
      rw [hm] at HP18 HQ18
      clear hm
      go_upto_region 9 with fail
      clear hv hf p0 p1 p2 p3 p4 p5 p6 p7 p8 p9 p10 p11 p12 p13 p14 p15 p16 p17 q0 q1 q2 q3 q4 q5 q6 q7 q8 q9 q10 q11 q12 q13 q14 q15 q16 q17
      go_wp2_with fail
      clear p18 q18
      go_loopw [63] (fun i wr2 => ∃ j : Nat, i = .int .i64 (j : Int) ∧ j ≤ m ∧ Hid (Below wb.heap.size wb wr2)) (fun i _ => m - (intOf i).toNat)
      case atStart => exact ⟨0, rfl, by omega, hide (Below.refl _ _)⟩
      case round =>
        obtain ⟨j, rfl, hj, HB2⟩ := hrel
        by_cases hltj : j < m
        · have hltji : (j : Int) < (m : Int) := by omega
          obtain ⟨gx, ox, rfl, x1⟩ := ints_at (ints_below (unhide HIA2) (unhide HB2)) j (by rw [unhide HM]; exact hltj)
          obtain ⟨gy, oy, rfl, y1⟩ := ints_at (ints_below (unhide HIB2) (unhide HB2)) j (by rw [unhide HM]; exact hltj)
          have x18 := unhide HP18 _ (cells_nx (unhide C1b) (unhide HB2))
          have y18 := unhide HQ18 _ (cells_nx (unhide C2) (unhide HB2))
          go_upto_region 12 with fail
          go_quiet (fail)
          go_wp2
          go_roundw
          case rel => exact ⟨j + 1, by go_num, by omega, hide (below_same3 (unhide HB2) rfl rfl rfl rfl)⟩
          case measure => simp [intOf]; omega
        · have hltji : ¬ (j : Int) < (m : Int) := by omega
          have HB3 := hide (below_nx (unhide HBC) (unhide HB2))
          go_wp2
          go_roundw
          case rel => exact ⟨k + 1, by go_num, by omega, HB3⟩
          case measure => simp [intOf]; omega
    · have hlti : ¬ (k : Int) < (n : Int) := by omega
      go_wp2
      go_ret
      exact ⟨rfl, unhide HB⟩
end Go.Proofs.YtloamahbghjjgaaGreatDoor

namespace Go.Proofs.YtloamahbghjjgaaGreatDoor
open Go.RowKit

theorem emit_kids : ∀ (s : Syn) (b : Nat), ∀ n ∈ s.emit b, n.kids.length ≤ max 2 s.most
  | ⟨.inl t⟩, _, n, h => by
    rw [show Syn.emit _ (.atom t) = [atomN t] from rfl, List.mem_singleton] at h
    rw [h]; unfold atomN; split <;> simp
  | ⟨.inr (.inl (_, s, _))⟩, b, n, h => emit_kids s b n h
  | ⟨.inr (.inr (.inl (t, o, l, c)))⟩, b, n, h => by
    have e : (Syn.call t o l c).most = max l.most (l.kidsL 0).length := rfl
    rw [e]
    rcases List.mem_append.1 (show n ∈ l.emit b ++ [callN t (l.kidsL b)] from h) with h | h
    · have := emit_kids l b n h; omega
    · rw [List.mem_singleton] at h
      rw [h]
      show ((l.kidsL b).map fun k : Nat => (k : Int)).length ≤ _
      rw [List.length_map, kids_len]; omega
  | ⟨.inr (.inr (.inr (.inl (t, s))))⟩, b, n, h => by
    simp only [Syn.emit] at h
    show _ ≤ max 2 s.most
    split at h
    · rcases List.mem_append.1 h with h | h
      · exact emit_kids s b n h
      · rw [List.mem_singleton] at h
        rw [h]; show 1 ≤ _; omega
    · exact emit_kids s b n h
  | ⟨.inr (.inr (.inr (.inr (.inl (s, t)))))⟩, b, n, h => by
    show _ ≤ max 2 s.most
    rcases List.mem_append.1 (show n ∈ s.emit b ++ [pctN (b + s.size - 1)] from h) with h | h
    · exact emit_kids s b n h
    · rw [List.mem_singleton] at h
      rw [h]; show 1 ≤ _; omega
  | ⟨.inr (.inr (.inr (.inr (.inr (.inl (x, t, y))))))⟩, b, n, h => by
    show _ ≤ max 2 (max x.most y.most)
    rcases List.mem_append.1 (show n ∈ x.emit b ++ (y.emit (b + x.size) ++ [binN t (b + x.size - 1) (b + x.size + y.size - 1)]) from h) with h | h
    · have := emit_kids x b n h; omega
    · rcases List.mem_append.1 h with h | h
      · have := emit_kids y _ n h; omega
      · rw [List.mem_singleton] at h
        rw [h]; show 2 ≤ _; omega
  | ⟨.inr (.inr (.inr (.inr (.inr (.inr (.inl ()))))))⟩, _, n, h => by cases h
  | ⟨.inr (.inr (.inr (.inr (.inr (.inr (.inr (.inl s)))))))⟩, b, n, h => emit_kids s b n h
  | ⟨.inr (.inr (.inr (.inr (.inr (.inr (.inr (.inr ((l, _, s)))))))))⟩, b, n, h => by
    show _ ≤ max 2 (max l.most s.most)
    rcases List.mem_append.1 (show n ∈ l.emit b ++ s.emit (b + l.size) from h) with h | h
    · have := emit_kids l b n h; omega
    · have := emit_kids s _ n h; omega
theorem lit_text (t : Tk) : (litV t).text.size ≤ t.text.size := by
  have h0 : noText.size = 0 := rfl
  unfold litV
  split
  · unfold vN; split
    · show noText.size ≤ _; omega
    · show noText.size ≤ _; omega
  · split
    · unfold vT; split
      · show noText.size ≤ _; omega
      · exact Nat.le_refl _
    · split
      · show noText.size ≤ _; omega
      · split
        · show noText.size ≤ _; omega
        · split
          · show noText.size ≤ _; omega
          · show noText.size ≤ _; omega
theorem emit_texts (K : Nat) : ∀ (s : Syn) (b : Nat), (∀ t ∈ s.toks, t.text.size ≤ K) → ∀ n ∈ s.emit b, n.val.text.size ≤ K ∧ n.op.size ≤ K
  | ⟨.inl t⟩, _, ht, n, h => by
    rw [show Syn.emit _ (.atom t) = [atomN t] from rfl, List.mem_singleton] at h
    have h1 := ht t (by simp [Syn.toks])
    have h2 := lit_text t
    rw [h]; unfold atomN; split
    · exact ⟨Nat.zero_le _, Nat.zero_le _⟩
    · exact ⟨Nat.le_trans h2 h1, Nat.zero_le _⟩
  | ⟨.inr (.inl (_, s, _))⟩, b, ht, n, h => emit_texts K s b (fun t h => ht t (by simp [Syn.toks, h])) n h
  | ⟨.inr (.inr (.inl (t, _, l, _)))⟩, b, ht, n, h => by
    rcases List.mem_append.1 (show n ∈ l.emit b ++ [callN t (l.kidsL b)] from h) with h | h
    · exact emit_texts K l b (fun t h => ht t (by simp [Syn.toks, h])) n h
    · rw [List.mem_singleton] at h
      rw [h]; exact ⟨Nat.zero_le _, ht t (by simp [Syn.toks])⟩
  | ⟨.inr (.inr (.inr (.inl (t, s))))⟩, b, ht, n, h => by
    have hs := emit_texts K s b (fun t h => ht t (by simp [Syn.toks, h]))
    simp only [Syn.emit] at h
    split at h
    · rcases List.mem_append.1 h with h | h
      · exact hs n h
      · rw [List.mem_singleton] at h
        rw [h]; exact ⟨Nat.zero_le _, Nat.zero_le _⟩
    · exact hs n h
  | ⟨.inr (.inr (.inr (.inr (.inl (s, t)))))⟩, b, ht, n, h => by
    rcases List.mem_append.1 (show n ∈ s.emit b ++ [pctN (b + s.size - 1)] from h) with h | h
    · exact emit_texts K s b (fun t h => ht t (by simp [Syn.toks, h])) n h
    · rw [List.mem_singleton] at h
      rw [h]; exact ⟨Nat.zero_le _, Nat.zero_le _⟩
  | ⟨.inr (.inr (.inr (.inr (.inr (.inl (x, t, y))))))⟩, b, ht, n, h => by
    rcases List.mem_append.1 (show n ∈ x.emit b ++ (y.emit (b + x.size) ++ [binN t (b + x.size - 1) (b + x.size + y.size - 1)]) from h) with h | h
    · exact emit_texts K x b (fun t h => ht t (by simp [Syn.toks, h])) n h
    · rcases List.mem_append.1 h with h | h
      · exact emit_texts K y _ (fun t h => ht t (by simp [Syn.toks, h])) n h
      · rw [List.mem_singleton] at h
        rw [h]; exact ⟨Nat.zero_le _, ht t (by simp [Syn.toks])⟩
  | ⟨.inr (.inr (.inr (.inr (.inr (.inr (.inl ()))))))⟩, _, _, n, h => by cases h
  | ⟨.inr (.inr (.inr (.inr (.inr (.inr (.inr (.inl s)))))))⟩, b, ht, n, h => emit_texts K s b (fun t h => ht t (by simpa [Syn.toks] using h)) n h
  | ⟨.inr (.inr (.inr (.inr (.inr (.inr (.inr (.inr ((l, _, s)))))))))⟩, b, ht, n, h => by
    rcases List.mem_append.1 (show n ∈ l.emit b ++ s.emit (b + l.size) from h) with h | h
    · exact emit_texts K l b (fun t h => ht t (by simp [Syn.toks, h])) n h
    · exact emit_texts K s _ (fun t h => ht t (by simp [Syn.toks, h])) n h
theorem parse_fit {l : List UInt8} {nds : List Nd} (h : parseL l = (nds, 0)) : TreeFit nds ∧ nds.length ≤ 256 ∧ 1 ≤ nds.length := by
  obtain ⟨z, h1, h2, h3, h4, h5, rfl, hl⟩ := fm_get h
  obtain ⟨y, hy, rfl⟩ := h1 0
  have hX : lexT l = (y.toks, 0, 0) := by unfold lexT; rw [if_neg (by omega), hy]
  have ht := lexT_text l (by omega)
  rw [hX] at ht
  have hk := emit_kids y.bare 0
  have htx := emit_texts 1000 y 0 ht
  have e : y.bare.emit 0 = y.emit 0 := bare_emit y 0
  have hp := size_pos h2 (by omega)
  refine ⟨⟨by rw [emit_len]; omega, fun n hn => ?_, fun n hn => ?_, fun n hn => ?_⟩, by rw [emit_len]; omega, by rw [emit_len]; omega⟩
  · have := hk n hn; omega
  · have := (htx n (by rw [← e]; exact hn)).1; omega
  · have := (htx n (by rw [← e]; exact hn)).2; omega
theorem cutN (s : ByteArray) (n : Nat) : (s.extract 0 (min (s.size : Int) (n : Int)).toNat).size ≤ n := by
  rw [ByteArray.size_extract]; omega
theorem bs_of (b : ByteArray) : b = bs b.data.toList := by simp [bs]
set_option maxRecDepth 100000 in
set_option maxHeartbeats 8000000 in
theorem parsePlus_law (s : ByteArray) (w : World) (hs : s.size ≤ maxLen) (he : Env5 w) :
    Calls Tryz.prog 5 #[.string s] w fun e w' => e = .returned (.bool true) ∧ Below w.heap.size w w' := by
  have HE := hide he
  clear he
  unfold maxLen at hs
  go_enter Tryz.func5, Tryz.ntmps5
  go_upto_region 2 with fail
  have HZ := cutN s 500
  rw [show ((500 : Nat) : Int) = 500 from rfl] at HZ
  generalize s.extract 0 (min (s.size : Int) 500).toNat = b at HZ ⊢
  obtain ⟨l, rfl⟩ : ∃ l, b = bs l := ⟨_, bs_of b⟩
  rw [bs_size] at HZ
  clear hs
  have H1 := hide (fun w he => parse_val (bs l) w (by rw [bs_size]; omega) he)
  have H2 := hide (fun w he => parse_val (bs (40 :: (l ++ [41]))) w (by rw [bs_size]; simp; omega) he)
  have H3 := hide (fun w he => parse_val (bs (43 :: 40 :: (l ++ [41]))) w (by rw [bs_size]; simp; omega) he)
  rw [bs_list] at H1 H2 H3
  have HD2 := hide (fun nds (h : parseL l = (nds, 0)) => plus_par h HZ)
  have HD3 := hide (fun nds (h : parseL l = (nds, 0)) => plus_sign h HZ)
  have HFT := hide (fun nds (h : parseL l = (nds, 0)) => parse_fit h)
  obtain ⟨q1, hq1⟩ : ∃ q, parseL l = q := ⟨_, rfl⟩
  obtain ⟨q2, hq2⟩ : ∃ q, parseL (40 :: (l ++ [41])) = q := ⟨_, rfl⟩
  obtain ⟨q3, hq3⟩ : ∃ q, parseL (43 :: 40 :: (l ++ [41])) = q := ⟨_, rfl⟩
  rw [hq1] at H1 HD2 HD3 HFT
  rw [hq2] at H2 HD2
  rw [hq3] at H3 HD3
  clear hq1 hq2 hq3
  obtain ⟨n1, x1⟩ := q1
  obtain ⟨n2, x2⟩ := q2
  obtain ⟨n3, x3⟩ := q3
  unfold PaPost at H1 H2 H3
  simp only [] at H1 H2 H3
  have l1 : (bs l).size = l.length := bs_size l
  obtain ⟨a1, a2⟩ := long_no (a := ⟨#[40]⟩) (n := 1) rfl l1 (by omega)
  have l2 : ((⟨#[40]⟩ : ByteArray) ++ bs l).size = l.length + 1 := by rw [ByteArray.size_append, l1]; show 1 + _ = _; omega
  obtain ⟨a3, a4⟩ := long_no (b := ⟨#[41]⟩) (m := 1) l2 rfl (by omega)
  obtain ⟨a5, a6⟩ := long_no (a := ⟨#[43, 40]⟩) (n := 2) rfl l1 (by omega)
  have l3 : ((⟨#[43, 40]⟩ : ByteArray) ++ bs l).size = l.length + 2 := by rw [ByteArray.size_append, l1]; show 2 + _ = _; omega
  obtain ⟨a7, a8⟩ := long_no (b := ⟨#[41]⟩) (m := 1) l3 rfl (by omega)
  have p1 := par_bs l
  have p2 := pls_bs l
  clear l1 l2 l3
  have HWK := hide wakes6
  go_wp2_with fail
  refine (unhide H1 _ (unhide HE)).mono ?_
  rintro e w1 ⟨v1, rfl, hr, bb⟩
  obtain ⟨a, cap, rfl, _, hin⟩ := nodes_in hr
  have HI1 := hide hin
  have HB := hide bb
  clear bb H1 hr hin
  go_wp2_with fail
  refine (unhide H2 _ ((unhide HE).below (unhide HB))).mono ?_
  rintro e w2 ⟨v2, rfl, hr, bb⟩
  obtain ⟨a', cap2, rfl, _, hin⟩ := nodes_in hr
  have HI2 := hide hin
  replace HI1 := hide (nodesIn_below (unhide HI1) bb)
  replace HB := hide (below_nx (unhide HB) bb)
  clear bb H2 hr hin a1 a2 a3 a4 p1
  go_wp2_with fail
  refine (unhide H3 _ ((unhide HE).below (unhide HB))).mono ?_
  rintro e w3 ⟨v3, rfl, hr, bb⟩
  obtain ⟨a'', cap3, rfl, _, hin⟩ := nodes_in hr
  have HI3 := hide hin
  replace HI1 := hide (nodesIn_below (unhide HI1) bb)
  replace HI2 := hide (nodesIn_below (unhide HI2) bb)
  replace HB := hide (below_nx (unhide HB) bb)
  clear bb H3 hr hin a5 a6 a7 a8 p2
  by_cases hx : x1 = 0
  · subst hx
    obtain ⟨FT, _, _⟩ := unhide HFT _ rfl
    have FT := hide FT
    have K2 := unhide HD2 _ rfl
    have K3 := unhide HD3 _ rfl
    clear HD2 HD3 HFT
    have HQ := hide (fun a b cap cap' w h1 h2 => equal6_val a b cap cap' n1 w h1 h2 (unhide FT).len (unhide FT).kids)
    rcases K2 with K2 | K2
    · cases K2
      obtain ⟨N, hN⟩ : ∃ N, n1.length = N := ⟨_, rfl⟩
      rcases K3 with K3 | K3
      · cases K3
        rw [hN] at HQ ⊢
        clear hN
        go_wp2_with fail
        refine (unhide HWK _ ((unhide HE).below (unhide HB))).mono ?_
        rintro e w4 ⟨rfl, bb⟩
        replace HI1 := hide (nodesIn_below (unhide HI1) bb)
        replace HI2 := hide (nodesIn_below (unhide HI2) bb)
        replace HI3 := hide (nodesIn_below (unhide HI3) bb)
        replace HB := hide (below_nx (unhide HB) bb)
        clear bb
        go_wp2_with fail
        refine (unhide HQ _ _ _ _ _ (unhide HI1) (unhide HI2)).mono ?_
        rintro e w5 ⟨rfl, bb⟩
        replace HI1 := hide (nodesIn_below (unhide HI1) bb)
        replace HI3 := hide (nodesIn_below (unhide HI3) bb)
        replace HB := hide (below_nx (unhide HB) bb)
        clear bb
        go_wp2_with fail
        refine (unhide HQ _ _ _ _ _ (unhide HI1) (unhide HI3)).mono ?_
        rintro e w6 ⟨rfl, bb⟩
        replace HB := hide (below_nx (unhide HB) bb)
        clear bb
        go_wp2
        go_ret
        exact ⟨rfl, unhide HB⟩
      · cases K3
        rw [hN] at HQ ⊢
        clear hN
        go_wp2_with fail
        refine (unhide HWK _ ((unhide HE).below (unhide HB))).mono ?_
        rintro e w4 ⟨rfl, bb⟩
        replace HI1 := hide (nodesIn_below (unhide HI1) bb)
        replace HI2 := hide (nodesIn_below (unhide HI2) bb)
        replace HB := hide (below_nx (unhide HB) bb)
        clear bb
        go_wp2_with fail
        refine (unhide HQ _ _ _ _ _ (unhide HI1) (unhide HI2)).mono ?_
        rintro e w5 ⟨rfl, bb⟩
        replace HB := hide (below_nx (unhide HB) bb)
        clear bb
        go_wp2
        go_ret
        exact ⟨rfl, unhide HB⟩
    · cases K2
      obtain ⟨N, hN⟩ : ∃ N, n1.length = N := ⟨_, rfl⟩
      rcases K3 with K3 | K3
      · cases K3
        rw [hN] at HQ ⊢
        clear hN
        go_wp2_with fail
        refine (unhide HWK _ ((unhide HE).below (unhide HB))).mono ?_
        rintro e w4 ⟨rfl, bb⟩
        replace HI1 := hide (nodesIn_below (unhide HI1) bb)
        replace HI3 := hide (nodesIn_below (unhide HI3) bb)
        replace HB := hide (below_nx (unhide HB) bb)
        clear bb
        go_wp2_with fail
        refine (unhide HQ _ _ _ _ _ (unhide HI1) (unhide HI3)).mono ?_
        rintro e w5 ⟨rfl, bb⟩
        replace HB := hide (below_nx (unhide HB) bb)
        clear bb
        go_wp2
        go_ret
        exact ⟨rfl, unhide HB⟩
      · cases K3
        go_wp2_with fail
        refine (unhide HWK _ ((unhide HE).below (unhide HB))).mono ?_
        rintro e w4 ⟨rfl, bb⟩
        replace HB := hide (below_nx (unhide HB) bb)
        clear bb
        go_wp2
        go_ret
        exact ⟨rfl, unhide HB⟩
  · have hne : (x1 != 0) = true := by simpa using hx
    clear hx HD2 HD3 HFT
    go_wp2_with fail
    refine (unhide HWK _ ((unhide HE).below (unhide HB))).mono ?_
    rintro e w4 ⟨rfl, bb⟩
    replace HB := hide (below_nx (unhide HB) bb)
    clear bb
    go_wp2_with fail
    refine (unhide HWK _ ((unhide HE).below (unhide HB))).mono ?_
    rintro e w5 ⟨rfl, bb⟩
    replace HB := hide (below_nx (unhide HB) bb)
    clear bb
    go_wp2
    go_ret
    exact ⟨rfl, unhide HB⟩
end Go.Proofs.YtloamahbghjjgaaGreatDoor
