/- The contracts of a tree's Good and Nesting. -/
import Derived.Test.YtloamahbghjjgaaGreatDoorPcF
import Derived.Test.YtloamahbghjjgaaGreatDoorPcI
namespace Go.Proofs.YtloamahbghjjgaaGreatDoor
open Go.RowKit

theorem stk_range : ∀ (t : List (List Int)) (p : Nat) (free f : List Int), (∀ k ∈ free, 0 ≤ k ∧ k < (p : Int)) → stkF t p free = some f → ∀ ks ∈ t, ∀ k ∈ ks, 0 ≤ k ∧ k < (p : Int) + (t.length : Int)
  | [], _, _, _, _, _, ks, hks => by cases hks
  | kids :: rest, p, free, f, hfr, h, ks, hks => by
    rw [stkF] at h
    split at h
    · cases h
    split at h
    · rename_i hd
      have hfr2 : ∀ k ∈ free.take (free.length - kids.length) ++ [(p : Int)], 0 ≤ k ∧ k < ((p + 1 : Nat) : Int) := by
        intro k hk
        rcases List.mem_append.1 hk with hk | hk
        · have := hfr k (List.mem_of_mem_take hk)
          omega
        · have : k = (p : Int) := by simpa using hk
          omega
      rcases List.mem_cons.1 hks with rfl | hks
      · intro k hk
        rw [← hd] at hk
        have := hfr k (List.mem_of_mem_drop hk)
        rw [List.length_cons]
        omega
      · intro k hk
        have := stk_range rest (p + 1) _ f hfr2 h ks hks k hk
        rw [List.length_cons]
        omega
    · cases h
theorem sound_fit {nds : List Nd} (hf : TreeFit nds) (h : tsoundB nds = true) : KidsFit nds := by
  unfold tsoundB at h
  simp only [Bool.and_eq_true, Bool.not_eq_true'] at h
  obtain ⟨⟨h1, _⟩, _, h4⟩ := h
  refine ⟨List.length_pos_iff.mpr (fun e => by rw [e] at h1; simp at h1), hf.len, fun n hn => ⟨hf.kids n hn, fun k hk => ?_⟩⟩
  unfold standsB at h4
  cases hq : stkF (nds.map (·.kids)) 0 [] with
  | none => rw [hq] at h4; cases h4
  | some f =>
    have := stk_range _ 0 [] f (fun k hk => by cases hk) hq n.kids (List.mem_map.2 ⟨n, hn, rfl⟩) k hk
    rw [List.length_map] at this
    omega
/-- The program's nesting of a sound tree. -/
def nestT (nds : List Nd) : Int := topI ((runN (nds.map (·.kids)) (innC nds) nds.length (List.replicate nds.length 0)).map fun x => ((x : Nat) : Int))
def goodT (nds : List Nd) : Bool := tsoundB nds && decide (nestT nds ≤ 32)
def nestingT (nds : List Nd) : Int := if tsoundB nds then nestT nds else 0
set_option maxRecDepth 100000 in
set_option maxHeartbeats 4000000 in
theorem nestingT_val (a : Option Addr) (cap : Nat) (nds : List Nd) (w : World) (hn : NodesIn w a nds) (hf : TreeFit nds) :
    Calls Tryz.prog 36 #[.slice a nds.length cap] w fun e w' => e = .returned (.int .i64 (nestingT nds)) ∧ Below w.heap.size w w' := by
  have HN := hide hn
  have HF := hide hf
  have HS := hide (tsound_val a cap nds w hn hf)
  have HT := hide (fun w2 (h : NodesIn w2 a nds) (h2 : tsoundB nds = true) => nesting_val a cap nds w2 h (sound_fit hf h2))
  have HR : Hid (∀ b, tsoundB nds = b → nestingT nds = if b then nestT nds else 0) := hide (fun b hb => by unfold nestingT; rw [hb])
  obtain ⟨sb, hsb⟩ : ∃ sb, tsoundB nds = sb := ⟨_, rfl⟩
  have HSB := hide hsb
  rw [hsb] at HS
  obtain ⟨n, hnl⟩ : ∃ n, nds.length = n := ⟨_, rfl⟩
  have HNT : Hid (topI ((runN (nds.map (·.kids)) (innC nds) nds.length (List.replicate nds.length 0)).map fun x => ((x : Nat) : Int)) = nestT nds) := hide rfl
  have HT2 := hide (fun w2 h h2 => by
    have := unhide HT w2 h h2
    rw [unhide HNT, hnl] at this
    exact this)
  rw [hnl] at HS ⊢
  obtain ⟨res, hres⟩ : ∃ r, nestingT nds = r := ⟨_, rfl⟩
  have HRES : Hid (res = if sb then nestT nds else 0) := hide (by rw [← hres, unhide HR sb hsb])
  rw [hres]
  clear hn hf hsb hnl hres HT HR
  go_enter Tryz.func36, Tryz.ntmps36
  go_wp2_with fail
  refine (unhide HS).mono ?_
  rintro e w2 ⟨rfl, b2⟩
  have HB := hide b2
  have HN2 := hide (nodesIn_below (unhide HN) b2)
  clear b2
  cases sb with
  | false =>
    have HR0 : Hid (res = 0) := hide (by rw [unhide HRES]; rfl)
    go_wp2
    go_ret
    exact ⟨by rw [unhide HR0]; rfl, unhide HB⟩
  | true =>
    have HC := hide (unhide HT2 w2 (unhide HN2) (unhide HSB))
    have HR0 : Hid (res = nestT nds) := hide (by rw [unhide HRES]; rfl)
    go_wp2_with fail
    refine (unhide HC).mono ?_
    rintro e w3 ⟨rfl, b3⟩
    have HB3 := hide (below_nx (unhide HB) b3)
    clear b3
    go_wp2
    go_ret
    exact ⟨by rw [unhide HR0]; rfl, unhide HB3⟩
set_option maxRecDepth 100000 in
set_option maxHeartbeats 4000000 in
theorem goodT_val (a : Option Addr) (cap : Nat) (nds : List Nd) (w : World) (hn : NodesIn w a nds) (hf : TreeFit nds) :
    Calls Tryz.prog 16 #[.slice a nds.length cap] w fun e w' => e = .returned (.bool (goodT nds)) ∧ Below w.heap.size w w' := by
  have HN := hide hn
  have HS := hide (tsound_val a cap nds w hn hf)
  have HT := hide (fun w2 (h : NodesIn w2 a nds) (h2 : tsoundB nds = true) => nesting_val a cap nds w2 h (sound_fit hf h2))
  obtain ⟨sb, hsb⟩ : ∃ sb, tsoundB nds = sb := ⟨_, rfl⟩
  have HSB := hide hsb
  rw [hsb] at HS
  obtain ⟨n, hnl⟩ : ∃ n, nds.length = n := ⟨_, rfl⟩
  obtain ⟨nt, hnt⟩ : ∃ nt, nestT nds = nt := ⟨_, rfl⟩
  have HNT : Hid (topI ((runN (nds.map (·.kids)) (innC nds) nds.length (List.replicate nds.length 0)).map fun x => ((x : Nat) : Int)) = nt) := hide hnt
  have HT2 := hide (fun w2 h h2 => by
    have := unhide HT w2 h h2
    rw [unhide HNT, hnl] at this
    exact this)
  rw [hnl] at HS ⊢
  obtain ⟨res, hres⟩ : ∃ r, goodT nds = r := ⟨_, rfl⟩
  have HRES : Hid (res = (sb && decide (nt ≤ 32))) := hide (by rw [← hres]; unfold goodT; rw [hsb, hnt])
  rw [hres]
  clear hn hf hsb hnl hres hnt HT HNT
  go_enter Tryz.func16, Tryz.ntmps16
  go_wp2_with fail
  refine (unhide HS).mono ?_
  rintro e w2 ⟨rfl, b2⟩
  have HB := hide b2
  have HN2 := hide (nodesIn_below (unhide HN) b2)
  clear b2
  cases sb with
  | false =>
    have HR0 : Hid (res = false) := hide (by rw [unhide HRES]; rfl)
    go_wp2
    go_ret
    exact ⟨by rw [unhide HR0]; rfl, unhide HB⟩
  | true =>
    have HC := hide (unhide HT2 w2 (unhide HN2) (unhide HSB))
    have HR0 : Hid (decide (nt ≤ 32) = res) := hide (by rw [unhide HRES]; rfl)
    go_wp2_with fail
    refine (unhide HC).mono ?_
    rintro e w3 ⟨rfl, b3⟩
    have HB3 := hide (below_nx (unhide HB) b3)
    clear b3
    go_wp2
    go_ret
    exact ⟨by rw [← unhide HR0]; rfl, unhide HB3⟩
end Go.Proofs.YtloamahbghjjgaaGreatDoor
