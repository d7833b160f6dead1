/- What is told once of a tree: the words that it calls. -/
import Derived.Test.YtloamahbghjjgaaGreatDoorPcK
import Derived.Test.YtloamahbghjjgaaGreatDoorPcM
import Derived.Test.YtloamahbghjjgaaGreatDoorPcJ
namespace Go.Proofs.YtloamahbghjjgaaGreatDoor
open Go.RowKit
theorem infoS : (Tryz.prog.info? 9).map (fun i => (i.zero, i.size, i.bytes)) = some (some (.string ⟨#[]⟩), 1, 16) := by kernel_rfl
theorem strs_of_owns {w : World} {B : Nat} {v : Value} {n : Nat} {ks : List ByteArray} (h : w.ownsRow B 9 1 v n (ks.map fun k => Value.string k)) : ∃ a cap, v = .slice a n cap ∧ n ≤ cap ∧ n = ks.length ∧ StrsIn w a ks := by
  have hl : ks.length = n := by have := h.1; simpa using this
  rcases h.2 with ⟨rfl, h0⟩ | ⟨g, cap, cur, rfl, hg, hh, hc, _, hs, ht⟩
  · exact ⟨none, 0, by rw [h0], by omega, hl.symm, Or.inl (List.eq_nil_of_length_eq_zero (by omega))⟩
  · refine ⟨_, cap, rfl, hc, hl.symm, Or.inr ⟨g, 0, rfl, (Array.getElem?_eq_some_iff.1 hh).1, fun i k hi => ?_⟩⟩
    have h1 : (ks.map fun k => Value.string k)[i]? = some (.string k) := by rw [List.getElem?_map, hi]; rfl
    rw [← ht] at h1
    rw [cell_of_row w g _ cur _ (0, 0) hh, Nat.zero_add]
    rw [List.getElem?_take] at h1
    split at h1
    · simpa using h1
    · cases h1
def onceS (all : List ByteArray) (n : Nd) : List ByteArray := if (n.kind == 5) && !hasS all n.op then all ++ [n.op] else all
def callsT (nds : List Nd) : List ByteArray := if tsoundB nds then nds.foldl onceS [] else []
theorem onceS_len : ∀ (l : List Nd) (all : List ByteArray), (l.foldl onceS all).length ≤ all.length + l.length
  | [], all => Nat.le_refl _
  | n :: l, all => by
    have := onceS_len l (onceS all n)
    have h2 : (onceS all n).length ≤ all.length + 1 := by
      unfold onceS; split <;> simp
    rw [List.foldl_cons, List.length_cons]; omega
set_option maxRecDepth 100000 in
set_option maxHeartbeats 4000000 in
theorem onceS_val (a : Option Addr) (cap : Nat) (nds : List Nd) (w : World) (hn : NodesIn w a nds) (hf : TreeFit nds) :
    Calls Tryz.prog 77 #[.slice a nds.length cap, .func (.func 78) #[] #[]] w fun e w' => (∃ v, e = .returned v ∧ w'.ownsRow w.heap.size 9 1 v (callsT nds).length ((callsT nds).map fun s => Value.string s)) ∧ Below w.heap.size w w' := by
  have HN := hide hn
  have HF := hide hf
  have HS := hide (tsound_val a cap nds w hn hf)
  obtain ⟨res, hres⟩ : ∃ r, callsT nds = r := ⟨_, rfl⟩
  have HRES := hide hres
  rw [hres]
  obtain ⟨sb, hsb⟩ : ∃ sb, tsoundB nds = sb := ⟨_, rfl⟩
  have HSB := hide hsb
  rw [hsb] at HS
  have hl := hf.len
  obtain ⟨n, hnl⟩ : ∃ n, nds.length = n := ⟨_, rfl⟩
  have HNL := hide hnl
  rw [hnl] at HS hl ⊢
  obtain ⟨i0, hi, hz0, hz1, hz2⟩ := info_parts infoS
  clear hn hf hsb hnl hres
  go_enter Tryz.func77, Tryz.ntmps77
  go_wp2_with fail
  refine (unhide HS).mono ?_
  rintro e w2 ⟨rfl, b2⟩
  have HB := hide b2
  clear b2
  cases sb with
  | false =>
    have HR0 : Hid (res = []) := hide (by rw [← unhide HRES]; unfold callsT; rw [unhide HSB]; rfl)
    go_wp2
    go_ret
    exact ⟨⟨_, rfl, by rw [unhide HR0]; exact World.ownsRow_nil _ _ _ _⟩, unhide HB⟩
  | true =>
    have HR0 : Hid (res = nds.foldl onceS []) := hide (by rw [← unhide HRES]; unfold callsT; rw [unhide HSB]; rfl)
    go_wp2_with fail
    go_loopw [5, 15] (fun v i wr => ∃ (k : Nat) (m : List ByteArray), i = .int .i64 (k : Int) ∧ k ≤ n ∧ Hid ((nds.take k).foldl onceS [] = m) ∧ Hid (wr.ownsRow w.heap.size 9 1 v m.length (m.map fun s => Value.string s)) ∧ Hid (Below w.heap.size w wr)) (fun _ i _ => n - (intOf i).toNat)
    case atStart => exact ⟨0, [], rfl, by omega, hide rfl, hide (World.ownsRow_nil _ _ _ _), HB⟩
    case round =>
      obtain ⟨k, m, rfl, hk, HM, HO, HBW⟩ := hrel
      by_cases hlt : k < n
      · have hlti : (k : Int) < (n : Int) := by omega
        obtain ⟨nd, hnd⟩ : ∃ nd, nds[k]? = some nd := ⟨nds[k]'(by rw [unhide HNL]; exact hlt), List.getElem?_eq_getElem (by rw [unhide HNL]; exact hlt)⟩
        obtain ⟨g, off, ka, kcap, rfl, hg, hkc, hki, hcells⟩ := node_at (nodesIn_below (unhide HN) (unhide HBW)) k nd hnd
        have HTK : Hid ((nds.take (k + 1)).foldl onceS [] = onceS m nd) := hide (by
          rw [List.take_add_one, hnd, List.foldl_append, unhide HM]; rfl)
        have hml : m.length ≤ 1000 := by
          rw [← unhide HM]
          have h1 := onceS_len (nds.take k) []
          rw [List.length_take, unhide HNL, List.length_nil] at h1
          omega
        obtain ⟨va, vcap, rfl, hvc, _, hvs⟩ := strs_of_owns (unhide HO)
        have HVS := hide hvs
        have HCR := hide (nd_range hcells)
        have st := nd_new wr nd (.slice ka nd.kids.length kcap) rfl
        have C5 := hide (range_cells0 (cells_new wr ndT (nd.cells (.slice ka nd.kids.length kcap))))
        have zN : (nd.cells (.slice ka nd.kids.length kcap)).size = 19 := rfl
        have HC1 := hide (fun w => callsOne_val nd (.slice ka nd.kids.length kcap) rfl w)
        obtain ⟨cs, hcs⟩ : ∃ cs, nd.cells (.slice ka nd.kids.length kcap) = cs := ⟨_, rfl⟩
        rw [hcs] at HC1 HCR st C5 zN
        have HIN : Hid ((Tryz.prog.info? 55).map (·.size) = some cs.toList.length) := hide (by rw [infoNs, Array.length_toList, zN])
        obtain ⟨b5, hb5⟩ : ∃ b, (nd.kind == 5) = b := ⟨_, rfl⟩
        obtain ⟨op, hop⟩ : ∃ op, nd.op = op := ⟨_, rfl⟩
        obtain ⟨hc, hhc⟩ : ∃ b, hasS m op = b := ⟨_, rfl⟩
        have HTK2 : Hid (onceS m nd = if b5 && !hc then m ++ [op] else m) := hide (by unfold onceS; rw [hb5, hop, hhc])
        rw [hb5, hop] at HC1
        have HHC := hide hhc
        have HOA := hide ((unhide HO).alloc (.cells cs ndT))
        clear hb5 hop hhc hcs hcells hki hnd hvs
        go_wp2_with (first | (refine wpList_load_mid rfl 55 _ rfl g (off + k * 19) rfl cs.toList _ (unhide HCR) Tryz.underlying55 rfl (unhide HIN) ?_) | (refine wpList_load_mid rfl 55 _ rfl wr.heap.size 0 rfl cs.toList _ (unhide C5) Tryz.underlying55 rfl (unhide HIN) ?_))
        refine (unhide HC1 _).mono ?_
        rintro e w3 ⟨rfl, b3⟩
        have HB3 := hide (below_nx (below_nx (unhide HBW) (below_al wr (.cells cs ndT))) b3)
        have HO3 := hide (owns_grown (unhide HOA) (fun k hk _ => b3.block k hk))
        have HV3 := hide (strs_below (unhide HVS) (below_nx (below_al wr (.cells cs ndT)) b3))
        clear b3 st
        cases b5 with
        | false =>
          have HR2 : Hid ((nds.take (k + 1)).foldl onceS [] = m) := hide (by rw [unhide HTK, unhide HTK2]; rfl)
          go_wp2
          go_roundw
          case rel => exact ⟨k + 1, m, by go_num, by omega, HR2, HO3, HB3⟩
          case measure => simp [intOf]; omega
        | true =>
          have HCT := hide (scontains_val va vcap m op w3 (unhide HV3) (by omega))
          rw [unhide HHC] at HCT
          go_wp2_with fail
          refine (unhide HCT).mono ?_
          rintro e w4 ⟨rfl, b4⟩
          have HB4 := hide (below_nx (unhide HB3) b4)
          have HO4 := hide (owns_grown (unhide HO3) (fun k hk _ => b4.block k hk))
          clear b4
          cases hc with
          | true =>
            have HR2 : Hid ((nds.take (k + 1)).foldl onceS [] = m) := hide (by rw [unhide HTK, unhide HTK2]; rfl)
            go_wp2
            go_roundw
            case rel => exact ⟨k + 1, m, by go_num, by omega, HR2, HO4, HB4⟩
            case measure => simp [intOf]; omega
          | false =>
            have HR2 : Hid ((nds.take (k + 1)).foldl onceS [] = m ++ [op]) := hide (by rw [unhide HTK, unhide HTK2]; rfl)
            have hsz := (unhide HB4).size
            go_wp2_with (at_builtin; refine wpList_append_own _ rfl _ _ 40 rfl w.heap.size 9 i0 (.string ⟨#[]⟩) 1 16 Tryz.underlying40 hi hz0 hz1 hz2 rfl (by decide) _ _ _ rfl ((unhide HO4).alloc _) ⟨w4.heap.size, 0, none⟩ 1 1 [.string op] rfl rfl (World.news_of_block (heap_alloc_new _ _)) (by simp [Value.oneCell']) (by unfold maxLen; omega) (by omega) (by simp; omega) ?_)
            intro v' w5 hown' hgrow _
            have hlen' : (m ++ [op]).length = m.length + 1 := by rw [List.length_append, List.length_singleton]
            have HO5 : Hid (w5.ownsRow w.heap.size 9 1 v' (m ++ [op]).length ((m ++ [op]).map fun s => Value.string s)) := hide (by
              rw [hlen', List.map_append]
              exact hown')
            have HB5 : Hid (Below w.heap.size w w5) := hide ((below_nx (unhide HB4) (below_al w4 (.cells #[.string op] 9))).grown hgrow (by simp; omega) (fun j hj => ((unhide HO4).lt j hj).1))
            clear hown' hgrow hlen'
            go_wp2
            go_roundw
            case rel => exact ⟨k + 1, m ++ [op], by go_num, by omega, HR2, HO5, HB5⟩
            case measure => simp [intOf]; omega
      · have hlti : ¬ (k : Int) < (n : Int) := by omega
        have HR1 : Hid (res = m) := hide (by
          have h1 := unhide HM
          rw [List.take_of_length_le (by rw [unhide HNL]; omega)] at h1
          rw [unhide HR0, h1])
        go_wp2
        go_ret
        exact ⟨⟨_, rfl, by rw [unhide HR1]; exact unhide HO⟩, unhide HBW⟩
end Go.Proofs.YtloamahbghjjgaaGreatDoor
