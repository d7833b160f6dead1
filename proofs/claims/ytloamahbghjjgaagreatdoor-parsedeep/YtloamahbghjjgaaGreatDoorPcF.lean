/- The contract of a tree's sound. -/
import Derived.Test.YtloamahbghjjgaaGreatDoorPcE
import Derived.Test.YtloamahbghjjgaaGreatDoorPcB
namespace Go.Proofs.YtloamahbghjjgaaGreatDoor
open Go.RowKit

def tsoundB (nds : List Nd) : Bool := (!nds.isEmpty && decide (nds.length ≤ 256)) && (nds.all soundB && standsB (nds.map (·.kids)))
/-- What may be asked of a tree. -/
structure TreeFit (nds : List Nd) : Prop where
  len : nds.length ≤ 1000
  kids : ∀ n ∈ nds, n.kids.length ≤ 1000
  text : ∀ n ∈ nds, n.val.text.size ≤ 1000000
  op : ∀ n ∈ nds, n.op.size ≤ 1000000
set_option maxRecDepth 100000 in
set_option maxHeartbeats 4000000 in
theorem tsound_val (a : Option Addr) (cap : Nat) (nds : List Nd) (w : World) (hn : NodesIn w a nds) (hf : TreeFit nds) :
    Calls Tryz.prog 41 #[.slice a nds.length cap] w fun e w' => e = .returned (.bool (tsoundB nds)) ∧ Below w.heap.size w w' := by
  have HN := hide hn
  have HF := hide hf
  obtain ⟨sb, hsb⟩ : ∃ sb, tsoundB nds = sb := ⟨_, rfl⟩
  have HSB := hide hsb
  rw [hsb]
  have hl := hf.len
  clear hn hf hsb
  obtain ⟨n, hnl⟩ : ∃ n, nds.length = n := ⟨_, rfl⟩
  have HNL := hide hnl
  have HST := hide (fun w2 h => stands_val a cap nds w2 h (unhide HF).len (unhide HF).kids)
  rw [hnl] at hl HST ⊢
  clear hnl
  by_cases h0 : n = 0
  · have HQ : sb = false := by
      rw [← unhide HSB]
      have : nds = [] := List.eq_nil_of_length_eq_zero (by rw [unhide HNL]; exact h0)
      rw [this]; rfl
    subst HQ h0
    go_enter Tryz.func41, Tryz.ntmps41
    go_wp2
    go_ret
    exact ⟨rfl, Below.refl _ _⟩
  have hne : nds.isEmpty = false := by
    cases hq : nds with
    | nil => rw [hq] at HNL; exact absurd (unhide HNL).symm h0
    | cons x l => rfl
  have h0i : ¬ ((n : Int) = 0) := by omega
  by_cases h256 : 256 < n
  · have HQ : sb = false := by
      rw [← unhide HSB]
      unfold tsoundB
      rw [unhide HNL, decide_eq_false (by omega)]
      simp
    have hi : (256 : Int) < (n : Int) := by omega
    subst HQ
    clear h0 h256
    go_enter Tryz.func41, Tryz.ntmps41
    go_wp2
    go_ret
    exact ⟨rfl, Below.refl _ _⟩
  have HQ : Hid (sb = (nds.all soundB && standsB (nds.map (·.kids)))) := hide (by
    rw [← unhide HSB]
    unfold tsoundB
    rw [unhide HNL, decide_eq_true (by omega), hne]
    simp)
  have hi : ¬ (256 : Int) < (n : Int) := by omega
  clear h0 h256 hne
  go_enter Tryz.func41, Tryz.ntmps41
  go_wp2_with fail
  go_loopw [15] (fun v wr => ∃ k : Nat, v = .int .i64 (k : Int) ∧ k ≤ n ∧ Hid ((nds.take k).all soundB = true) ∧ Hid (Below w.heap.size w wr)) (fun v _ => n - (intOf v).toNat)
  case atStart => exact ⟨0, rfl, by omega, hide rfl, hide (Below.refl _ _)⟩
  case round =>
    obtain ⟨k, rfl, hk, HA, HB⟩ := hrel
    by_cases hlt : k < n
    · have hlti : (k : Int) < (n : Int) := by omega
      obtain ⟨nd, hnd⟩ : ∃ nd, nds[k]? = some nd := ⟨nds[k]'(by rw [unhide HNL]; exact hlt), List.getElem?_eq_getElem (by rw [unhide HNL]; exact hlt)⟩
      obtain ⟨g, off, ka, kcap, rfl, hg, hkc, hki, hcells⟩ := node_at (nodesIn_below (unhide HN) (unhide HB)) k nd hnd
      have hmem := List.mem_of_getElem? hnd
      have HS := hide (fun w => nsound_val nd ka kcap w ((unhide HF).text nd hmem) ((unhide HF).op nd hmem))
      have HTK : Hid (nds.take (k + 1) = nds.take k ++ [nd]) := hide (by
        rw [List.take_add_one, hnd]; rfl)
      have HCR := hide (nd_range hcells)
      have st := nd_new wr nd (.slice ka nd.kids.length kcap) rfl
      have C5 := hide (range_cells0 (cells_new wr ndT (nd.cells (.slice ka nd.kids.length kcap))))
      have zN : (nd.cells (.slice ka nd.kids.length kcap)).size = 19 := rfl
      have HMM := hide hmem
      obtain ⟨cs, hcs⟩ : ∃ cs, nd.cells (.slice ka nd.kids.length kcap) = cs := ⟨_, rfl⟩
      rw [hcs] at HS HCR st C5 zN
      have HIN : Hid ((Tryz.prog.info? 55).map (·.size) = some cs.toList.length) := hide (by rw [infoNs, Array.length_toList, zN])
      obtain ⟨b, hb⟩ : ∃ b, soundB nd = b := ⟨_, rfl⟩
      have HBD := hide hb
      rw [hb] at HS
      clear hb hcs hcells hnd hki hmem
      go_wp2_with (first | (refine wpList_load_mid rfl 55 _ rfl g (off + k * 19) rfl cs.toList _ (unhide HCR) Tryz.underlying55 rfl (unhide HIN) ?_) | (refine wpList_load_mid rfl 55 _ rfl wr.heap.size 0 rfl cs.toList _ (unhide C5) Tryz.underlying55 rfl (unhide HIN) ?_))
      refine (unhide HS _).mono ?_
      rintro e w2 ⟨rfl, b2⟩
      have HB2 := hide (below_nx (below_nx (unhide HB) (below_al wr (.cells cs 55))) b2)
      clear b2 st
      cases b with
      | true =>
        have HA2 : Hid ((nds.take (k + 1)).all soundB = true) := hide (by
          rw [unhide HTK, List.all_append, unhide HA]
          simp [unhide HBD])
        go_wp2
        go_roundw
        case rel => exact ⟨k + 1, by go_num, by omega, HA2, HB2⟩
        case measure => simp [intOf]; omega
      | false =>
        have HQ2 : Hid (sb = false) := hide (by
          rw [unhide HQ]
          have : nds.all soundB = false := by
            rw [List.all_eq_false]
            exact ⟨nd, unhide HMM, by rw [unhide HBD]; simp⟩
          rw [this]; rfl)
        go_wp2
        go_ret
        exact ⟨by rw [unhide HQ2]; rfl, unhide HB2⟩
    · have hlti : ¬ (k : Int) < (n : Int) := by omega
      have HQ2 : Hid (sb = standsB (nds.map (·.kids))) := hide (by
        have h1 := unhide HA
        rw [List.take_of_length_le (by rw [unhide HNL]; omega)] at h1
        rw [unhide HQ, h1]; simp)
      have HS := hide (unhide HST wr (nodesIn_below (unhide HN) (unhide HB)))
      rw [← unhide HQ2] at HS
      go_wp2_with fail
      refine (unhide HS).mono ?_
      rintro e w2 ⟨rfl, b2⟩
      have HB2 := hide (below_nx (unhide HB) b2)
      clear b2
      go_wp2
      go_ret
      exact ⟨rfl, unhide HB2⟩
end Go.Proofs.YtloamahbghjjgaaGreatDoor
