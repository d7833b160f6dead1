/- The contract of the reference's all. -/
import Derived.Test.YtgoaefpkhjbkjaaGreatDoorRfY
import Derived.Test.YtgoaefpkhjbkjaaGreatDoorFxY
namespace Go.Proofs.YtgoaefpkhjbkjaaGreatDoor
open Go.RowKit

set_option maxHeartbeats 1000000 in
theorem all_ref (s : ByteArray) (w : World) (hs : s.size ≤ maxLen) :
    Calls Tryz.prog 113 #[.string s] w fun e w' => e = .returned (.bool (digB s.data.toList)) ∧ w' = w := by
  unfold maxLen at hs
  have hsz : s.data.toList.length = s.size := rfl
  by_cases h1 : s.size < 1
  · have ho : digB s.data.toList = false := by unfold digB; rw [hsz]; simp; omega
    rw [ho]
    have HS := hide hsz
    have HO := hide ho
    clear hsz ho
    have h1' : (s.size : Int) < 1 := by omega
    go_enter Tryz.func113, Tryz.ntmps113
    go_wp2
    go_ret
    exact ⟨rfl, rfl⟩
  by_cases h2 : 18 < s.size
  · have ho : digB s.data.toList = false := by unfold digB; rw [hsz]; simp; omega
    rw [ho]
    have HS := hide hsz
    have HO := hide ho
    clear hsz ho
    have h1' : ¬ (s.size : Int) < 1 := by omega
    have h2' : 18 < (s.size : Int) := by omega
    go_enter Tryz.func113, Tryz.ntmps113
    go_wp2
    go_ret
    exact ⟨rfl, rfl⟩
  have ho : digB s.data.toList = s.data.toList.all isDig := by
    unfold digB; rw [hsz, decide_eq_true (by omega), decide_eq_true (by omega)]; rfl
  have HS := hide hsz
  have HO := hide ho
  clear hsz ho
  go_enter Tryz.func113, Tryz.ntmps113
  go_wp2
  go_loop [3] (fun i => ∃ k : Nat, k ≤ s.size ∧ i = .int .i64 k ∧ Hid ((s.data.toList.take k).all isDig = true)) (fun i => s.size - (intOf i).toNat)
  case atStart => exact ⟨0, Nat.zero_le _, rfl, hide rfl⟩
  case round =>
    obtain ⟨k, hk, rfl, HT⟩ := hrel
    by_cases hlt : k < s.size
    · have hsn := take_snoc s k hlt
      by_cases hg : isDig s[k] = true
      · have hs' : Hid ((s.data.toList.take (k + 1)).all isDig = true) := hide (by rw [hsn, List.all_append, unhide HT, List.all_cons, hg]; rfl)
        clear hsn
        rw [isDig_iff] at hg
        obtain ⟨g1, g2⟩ := hg
        go_wp2
        go_round
        case rel => exact ⟨k + 1, by omega, by go_num, hs'⟩
        case measure => simp [intOf]; omega
      · have hs' : Hid (s.data.toList.all isDig = false) := by
          refine hide (List.all_eq_false.2 ⟨s[k], ?_, hg⟩)
          have : s[k] = s.data.toList[k]'(by simpa using hlt) := rfl
          rw [this]
          exact List.getElem_mem _
        clear hsn
        rw [isDig_iff] at hg
        by_cases g1 : s[k].toNat < 48
        · go_wp2
          go_ret
          exact ⟨by rw [unhide HO, unhide hs']; rfl, rfl⟩
        · have g2 : 57 < s[k].toNat := by omega
          go_wp2
          go_ret
          exact ⟨by rw [unhide HO, unhide hs']; rfl, rfl⟩
    · have hs' : Hid (s.data.toList.all isDig = true) := by
        have e : s.data.toList.take k = s.data.toList := List.take_of_length_le (by rw [unhide HS]; omega)
        rw [e] at HT
        exact HT
      go_wp2
      go_ret
      exact ⟨by rw [unhide HO, unhide hs']; rfl, rfl⟩


theorem all_list (x : List UInt8) (w : World) (hx : x.length ≤ 4294967281) :
    Calls Tryz.prog 113 #[.string ⟨x.toArray⟩] w fun e w' => e = .returned (.bool (digB x)) ∧ w' = w :=
  all_ref ⟨x.toArray⟩ w (by unfold maxLen; show x.length ≤ _; omega)
end Go.Proofs.YtgoaefpkhjbkjaaGreatDoor

namespace Go.Proofs.YtgoaefpkhjbkjaaGreatDoor

def dgt (c : UInt8) : Int := (c.toNat : Int) - 48
def revD (x : List UInt8) (k : Nat) : List Int := ((x.drop k).reverse).map dgt

theorem revD_len (x : List UInt8) (k : Nat) : (revD x k).length = x.length - k := by unfold revD; simp
theorem revD_full (x : List UInt8) : revD x x.length = [] := by unfold revD; simp
theorem revD_step (x : List UInt8) (k : Nat) (h0 : 0 < k) (hk : k ≤ x.length) : revD x (k - 1) = revD x k ++ [dgt (x[k - 1]'(by omega))] := by
  unfold revD
  rw [List.drop_eq_getElem_cons (show k - 1 < x.length by omega), show k - 1 + 1 = k by omega]
  simp
theorem isDig_at (x : List UInt8) (h : x.all isDig = true) (k : Nat) (hk : k < x.length) : 48 ≤ x[k].toNat ∧ x[k].toNat ≤ 57 :=
  (isDig_iff _).1 (List.all_eq_true.1 h _ (List.getElem_mem hk))
theorem revD_dig (x : List UInt8) (h : x.all isDig = true) (k : Nat) : Dc.Dig (revD x k) := by
  intro y hy
  unfold revD at hy
  obtain ⟨c, hc, rfl⟩ := List.mem_map.1 hy
  have := (isDig_iff c).1 (List.all_eq_true.1 h c (List.mem_of_mem_drop (List.mem_reverse.1 hc)))
  unfold dgt
  omega
theorem dig_append {a b : List Int} (ha : Dc.Dig a) (hb : Dc.Dig b) : Dc.Dig (a ++ b) := by
  intro x hx
  rcases List.mem_append.1 hx with h | h
  · exact ha x h
  · exact hb x h
theorem rev_val : ∀ (x : List UInt8), x.all isDig = true → Dc.val (x.reverse.map dgt) = (numL x : Int)
  | [], _ => rfl
  | c :: x, h => by
    rw [List.all_cons, Bool.and_eq_true, isDig_iff] at h
    rw [List.reverse_cons, List.map_append, Dc.val_append, rev_val x h.2, numL_cons]
    have e : Dc.val (List.map dgt [c]) = ((c.toNat - 48 : Nat) : Int) := by
      show dgt c + 10 * 0 = _
      unfold dgt
      have := h.1
      omega
    rw [e, List.length_map, List.length_reverse, Int.natCast_add, Int.natCast_mul, Int.natCast_pow, Int.mul_comm]
    have : ((10 : Nat) : Int) = 10 := rfl
    rw [this]
    omega
theorem revD_val (x : List UInt8) (h : x.all isDig = true) : Dc.val (revD x 0) = (numL x : Int) := by
  unfold revD
  rw [List.drop_zero]
  exact rev_val x h
theorem both_val (W P : List UInt8) (hW : W.all isDig = true) (hP : P.all isDig = true) : Dc.val (revD P 0 ++ revD W 0) = ((numL W * 10 ^ P.length + numL P : Nat) : Int) := by
  rw [Dc.val_append, revD_val P hP, revD_val W hW, revD_len, Nat.sub_zero, Int.natCast_add, Int.natCast_mul, Int.natCast_pow, Int.mul_comm]
  have : ((10 : Nat) : Int) = 10 := rfl
  rw [this]
  omega

structure CutAt (t W P : List UInt8) (dot : Bool) : Prop where
  noW : ∀ c, c ∈ W → c ≠ 46
  yes : dot = true → t = W ++ 46 :: P
  no : dot = false → t = W ∧ P = []
theorem t_split (t : List UInt8) : (∃ l r, t = l ++ 46 :: r ∧ ∀ c, c ∈ l → c ≠ 46) ∨ (∀ c, c ∈ t → c ≠ 46) := by
  induction t with
  | nil => exact Or.inr (fun c hc => by simp at hc)
  | cons b t ih =>
    by_cases hb : b = 46
    · exact Or.inl ⟨[], t, by rw [hb]; rfl, fun c hc => by simp at hc⟩
    · rcases ih with ⟨l, r, e, h⟩ | h
      · refine Or.inl ⟨b :: l, r, by rw [e]; rfl, fun c hc => ?_⟩
        rcases List.mem_cons.1 hc with h1 | h1
        · rw [h1]; exact hb
        · exact h c h1
      · refine Or.inr (fun c hc => ?_)
        rcases List.mem_cons.1 hc with h1 | h1
        · rw [h1]; exact hb
        · exact h c h1
theorem cut_facts (l : List UInt8) : CutAt (Lib.trimPrefix l [45]) (wholeOf l) (partOf l) (dotOf l) := by
  unfold wholeOf partOf dotOf
  rcases t_split (Lib.trimPrefix l [45]) with ⟨a, r, e, h⟩ | h
  · rw [e, cut_at a r h]
    exact ⟨h, fun _ => rfl, fun h => (by cases h)⟩
  · rw [cut_none _ h]
    exact ⟨h, fun h => (by cases h), fun _ => ⟨rfl, rfl⟩⟩
theorem neg_cons (c : UInt8) (l : List UInt8) : negOf (c :: l) = (c == 45) := by
  unfold negOf Lib.hasPrefix
  simp [List.isPrefixOf]
  by_cases h : c = 45
  · rw [h]
  · rw [beq_eq_false_iff_ne.2 h, beq_eq_false_iff_ne.2 (fun h2 => h h2.symm)]
theorem neg_yes (l : List UInt8) (h : negOf l = true) : Lib.trimPrefix l [45] = l.drop 1 := by
  unfold negOf at h
  unfold Lib.trimPrefix
  rw [h]; rfl
theorem neg_no (l : List UInt8) (h : negOf l = false) : Lib.trimPrefix l [45] = l := by
  unfold negOf at h
  unfold Lib.trimPrefix
  rw [h]; rfl

theorem parse_eq (l : List UInt8) (hf : formB l = true) (v : Int)
    (hv : v = nrI (((numL (wholeOf l) * 10 ^ (partOf l).length + numL (partOf l) : Nat) : Int) * 10000) ((10 ^ (partOf l).length : Nat) : Int)) : (sgnN (negOf l) v, sgnE v) = parseR l := by
  obtain ⟨p1, p2, p3, p4⟩ := part_facts l hf
  have hlt := numL_lt _ p2
  unfold parseR partsOf
  rw [hf, if_pos rfl]
  obtain ⟨W, hW⟩ : ∃ W, numL (wholeOf l) = W := ⟨_, rfl⟩
  obtain ⟨P, hP⟩ : ∃ P, numL (partOf l) = P := ⟨_, rfl⟩
  obtain ⟨z, hz⟩ : ∃ z, 10 ^ (partOf l).length = z := ⟨_, rfl⟩
  rw [hW, hP, hz] at hv ⊢
  rw [hP, hz] at hlt
  have hz0 : 0 < z := by omega
  have hk : nrOk P 10000 z = true := by
    unfold nrOk
    refine decide_eq_true ?_
    have : P * 10000 / z < 10001 := by
      rw [Nat.div_lt_iff_lt_mul hz0]
      have : P * 10000 ≤ z * 10000 := Nat.mul_le_mul_right _ (by omega)
      omega
    omega
  have e0 : (W * z + P) * 10000 = P * 10000 + z * (W * 10000) := by
    rw [Nat.add_mul, Nat.mul_comm W z, Nat.mul_assoc]; omega
  have e1 : v = ((W * 10000 + nrV P 10000 z : Nat) : Int) := by
    rw [hv]
    unfold nrI nrV
    rw [hk, if_pos rfl]
    have ec : ((W * z + P : Nat) : Int) * 10000 = (((W * z + P) * 10000 : Nat) : Int) := by simp
    rw [ec, ← Int.natCast_ediv, ← Int.natCast_emod, e0, Nat.add_mul_div_left _ _ hz0, Nat.add_mul_mod_self_left]
    by_cases h : z ≤ 2 * (P * 10000 % z)
    · rw [if_pos h, if_pos (by omega)]; omega
    · rw [if_neg h, if_neg (by omega)]; omega
  have hle := frac_le P z hlt
  cases hw : nrOk W 10000 1
  · have : 9000000000000000000 < W * 10000 := by
      unfold nrOk at hw
      rw [Nat.div_one] at hw
      have := of_decide_eq_false hw
      omega
    unfold sgnN sgnE
    rw [if_pos (by omega), if_pos (by omega), if_neg (by simp)]
  · rw [if_pos rfl]
    have : nrV W 10000 1 = W * 10000 := by
      unfold nrV
      rw [hw, if_pos rfl, Nat.div_one, Nat.mod_one, if_neg (by omega), Nat.add_zero]
    rw [this, e1]
end Go.Proofs.YtgoaefpkhjbkjaaGreatDoor

namespace Go.Proofs.YtgoaefpkhjbkjaaGreatDoor

def chr (d : Int) : UInt8 := UInt8.ofNat (48 + d.toNat)
def revT (zs : List Int) (k : Nat) : List UInt8 := ((zs.drop k).reverse).map chr
def sgnL (a : Int) : List UInt8 := if a < 0 then [45] else []

theorem revT_at (zs : List Int) (m : Nat) (hm : m < zs.length) : revT zs m = revT zs (m + 1) ++ [chr (zs.getD m 0)] := by
  unfold revT
  rw [List.drop_eq_getElem_cons hm, List.getD_eq_getElem?_getD, List.getElem?_eq_getElem hm, List.reverse_cons, List.map_append]
  rfl
theorem revT_full (zs : List Int) (k : Nat) (hk : zs.length = k) : revT zs k = [] := by unfold revT; rw [List.drop_of_length_le (by omega)]; rfl
theorem dec_rev : ∀ (ys : List Int), Dc.Dig ys → ys ≠ [] → (ys.length = 1 ∨ Dc.Cn ys) → ys.reverse.map chr = Lib.decDigits (Dc.val ys).toNat
  | [], _, h, _ => absurd rfl h
  | [d], hd, _, _ => by
    have h9 := hd d (by simp)
    have e : Dc.val [d] = d := by simp [Dc.val]
    rw [e, Lib.decDigits, dif_pos (by omega)]; rfl
  | d :: e :: ys, hd, _, hc => by
    have hc' : Dc.Cn (d :: e :: ys) := by
      rcases hc with h | h
      · simp at h
      · exact h
    have hc2 : Dc.Cn (e :: ys) := fun x l' h => hc' x (d :: l') (by rw [h]; rfl)
    have ih := dec_rev (e :: ys) hd.cons.2 (by simp) (Or.inr hc2)
    have hge := Dc.val_ge (e :: ys) hd.cons.2 hc2 (by simp)
    have hpp := Dc.pow_pos ((e :: ys).length - 1)
    have hv : Dc.val (d :: e :: ys) = d + 10 * Dc.val (e :: ys) := rfl
    have h9 := hd.cons.1
    rw [hv, List.reverse_cons, List.map_append, ih]
    generalize Dc.val (e :: ys) = V at *
    rw [Lib.decDigits.eq_def (d + 10 * V).toNat, dif_neg (by omega), show (d + 10 * V).toNat / 10 = V.toNat by omega, show (d + 10 * V).toNat % 10 = d.toNat by omega]
    rfl

theorem take4 (zs : List Int) : Dc.val (zs.take 4) = zs.getD 0 0 + 10 * zs.getD 1 0 + 100 * zs.getD 2 0 + 1000 * zs.getD 3 0 := by
  rw [Dc.val_take_succ, Dc.val_take_succ, Dc.val_take_succ, Dc.val_take_succ, List.take_zero]
  have e3 : (10 : Int) ^ 3 = 1000 := by decide
  have e2 : (10 : Int) ^ 2 = 100 := by decide
  have e1 : (10 : Int) ^ 1 = 10 := by decide
  have e0 : (10 : Int) ^ 0 = 1 := by decide
  rw [e3, e2, e1, e0]
  show 0 + _ + _ + _ + _ = _
  omega

structure TextIn (zs : List Int) (p : Nat) : Prop where
  dig : Dc.Dig zs
  val : Dc.val zs = (p : Int)
  len : 5 ≤ zs.length
  top : zs.length = 5 ∨ Dc.Cn zs
  hi : zs.length ≤ 19

theorem TextIn.low {zs : List Int} {p : Nat} (h : TextIn zs p) : Dc.val (zs.take 4) = ((p % 10000 : Nat) : Int) ∧ Dc.val (zs.drop 4) = ((p / 10000 : Nat) : Int) := by
  have e := Dc.val_append (zs.take 4) (zs.drop 4)
  have hl := h.len
  rw [List.take_append_drop, List.length_take, Nat.min_eq_left (by omega), h.val] at e
  have b1 := Dc.val_nonneg (zs.take 4) (h.dig.take 4)
  have b2 := Dc.val_lt (zs.take 4) (h.dig.take 4)
  rw [List.length_take, Nat.min_eq_left (by omega)] at b2
  have e4 : (10 : Int) ^ 4 = 10000 := by decide
  rw [e4] at e b2
  omega
theorem TextIn.whole {zs : List Int} {p : Nat} (h : TextIn zs p) : revT zs 4 = Lib.decDigits (p / 10000) := by
  have hl := h.len
  have := dec_rev (zs.drop 4) (fun x hx => h.dig x (List.mem_of_mem_drop hx)) (by intro e; have := congrArg List.length e; simp at this; omega) (by
    rcases h.top with h5 | hc
    · exact Or.inl (by rw [List.length_drop]; omega)
    · refine Or.inr (fun x l' e => hc x (zs.take 4 ++ l') ?_)
      rw [List.append_assoc, ← e, List.take_append_drop])
  rw [h.low.2] at this
  exact this
theorem TextIn.zero {zs : List Int} {p : Nat} (h : TextIn zs p) (hz : ∀ i, i < 4 → zs.getD i 0 = 0) : fracL (p % 10000) = [] := by
  have e := take4 zs
  rw [hz 0 (by omega), hz 1 (by omega), hz 2 (by omega), hz 3 (by omega), h.low.1] at e
  unfold fracL
  rw [if_pos (by omega)]
theorem getD_take (zs : List Int) (n i : Nat) (h : i < n) : (zs.take n).getD i 0 = zs.getD i 0 := by
  rw [List.getD_eq_getElem?_getD, List.getElem?_take, if_pos h, ← List.getD_eq_getElem?_getD]
theorem chr_zero {d : Int} (h : 0 ≤ d ∧ d ≤ 9) : chr d = 48 ↔ d = 0 := by
  unfold chr
  constructor
  · intro e
    have := congrArg UInt8.toNat e
    rw [UInt8.toNat_ofNat'] at this
    have e2 : (48 : UInt8).toNat = 48 := rfl
    rw [e2] at this
    omega
  · rintro rfl; rfl
theorem TextIn.part {zs : List Int} {p : Nat} (h : TextIn zs p) (k : Nat) (hk : k < 4) (hz : ∀ i, i < k → zs.getD i 0 = 0) (hn : zs.getD k 0 ≠ 0) : fracL (p % 10000) = 46 :: revT (zs.take 4) k := by
  have hl := h.len
  have e := take4 zs
  have l1 := h.low.1
  rw [l1] at e
  have d0 := h.dig.getD 0
  have d1 := h.dig.getD 1
  have d2 := h.dig.getD 2
  have d3 := h.dig.getD 3
  have hne : p % 10000 ≠ 0 := by
    have : k = 0 ∨ k = 1 ∨ k = 2 ∨ k = 3 := by omega
    rcases this with rfl | rfl | rfl | rfl <;> omega
  have hlen : (zs.take 4).length = 4 := by rw [List.length_take]; omega
  have hd : Dc.Dig (zs.take 4 ++ [1]) := dig_snoc (h.dig.take 4) (by omega) (by omega)
  have hv := dec_rev (zs.take 4 ++ [1]) hd (by simp) (Or.inr (cn_snoc (by omega)))
  rw [val_snoc, hlen, l1] at hv
  have e4 : (10 : Int) ^ 4 = 10000 := by decide
  rw [e4, show (((p % 10000 : Nat) : Int) + 10000 * 1).toNat = 10000 + p % 10000 by omega] at hv
  unfold fracL
  rw [if_neg hne, ← hv, List.reverse_append]
  show 46 :: Lib.trimRightB ((chr 1 :: (zs.take 4).reverse.map chr).drop 1) 48 = _
  rw [List.drop_one, List.tail_cons]
  unfold Lib.trimRightB
  rw [← List.map_reverse, List.reverse_reverse]
  have hdw := Lib.dropWhile_drop (· == (48 : UInt8)) ((zs.take 4).map chr) k (by
    intro j b hj hb
    rw [List.getElem?_map, List.getElem?_take, if_pos (by omega), List.getElem?_eq_getElem (by omega)] at hb
    injection hb with hb
    have hzj := hz j hj
    rw [List.getD_eq_getElem?_getD, List.getElem?_eq_getElem (by omega)] at hzj
    have hzj : zs[j] = 0 := hzj
    rw [← hb, hzj]; rfl) (by
    intro b hb
    rw [List.getElem?_map, List.getElem?_take, if_pos (by omega), List.getElem?_eq_getElem (by omega)] at hb
    injection hb with hb
    rw [List.getD_eq_getElem?_getD, List.getElem?_eq_getElem (by omega)] at hn
    have hn : zs[k] ≠ 0 := hn
    rw [← hb, beq_eq_false_iff_ne]
    intro h2
    exact hn ((chr_zero (h.dig _ (List.getElem_mem _))).1 h2)) (by simp; omega)
  rw [hdw]
  unfold revT
  rw [← List.map_drop, ← List.map_reverse]

theorem TextIn.text {zs : List Int} {a : Int} (h : TextIn zs a.natAbs) (hg : goodB a = true) (r : List UInt8) (hr : fracL (a.natAbs % 10000) = r) : textL a = sgnL a ++ revT zs 4 ++ r := by
  unfold textL sgnL absL
  rw [if_pos hg, h.whole, hr]
  by_cases ha : a < 0
  · rw [if_pos ha, if_pos ha]; simp
  · rw [if_neg ha, if_neg ha]; simp
end Go.Proofs.YtgoaefpkhjbkjaaGreatDoor

namespace Go.Proofs.YtgoaefpkhjbkjaaGreatDoor
open Go.RowKit

/-- Of digits: what they are, and their row. -/
def OwnPost (n : Int) (w : World) (e : Ending) (w' : World) : Prop :=
  Below w.heap.size w w' ∧ ∃ v zs, e = .returned v ∧ w'.ownsRow w.heap.size 3 1 v zs.length (zs.map (Value.int .i64)) ∧ Dc.Dig zs ∧ Dc.Cn zs ∧ Dc.val zs = n ∧ zs.length ≤ 19

set_option maxRecDepth 100000 in
set_option maxHeartbeats 2000000 in
theorem digits_own (a : Int) (w : World) (h1 : -9223372036854775808 ≤ a) (h2 : a ≤ 9223372036854775807) :
    Calls Tryz.prog 56 #[.int .i64 a] w fun e w' => OwnPost (a.natAbs : Int) w e w' := by
  obtain ⟨i0, hi, hz0, hz1, hz2⟩ := info_parts info3
  go_enter Tryz.func56, Tryz.ntmps56
  go_wp2
  go_loopw [0, 3] (fun t v wr => ∃ (x : Int) (zs : List Int), t = .int .i64 x ∧ -9223372036854775808 ≤ x ∧ x ≤ 9223372036854775807 ∧ wr.ownsRow w.heap.size 3 1 v zs.length (zs.map (Value.int .i64)) ∧ Below w.heap.size w wr ∧
      Hid (Dc.Dig zs ∧ Dc.val zs + 10 ^ zs.length * (x.natAbs : Int) = (a.natAbs : Int) ∧ (x = 0 → Dc.Cn zs) ∧ zs.length ≤ 19)) (fun t _ _ => (intOf t).natAbs)
  case atStart => exact ⟨a, [], rfl, h1, h2, World.ownsRow_nil _ _ _ _, Below.refl _ _, hide ⟨fun x hx => by simp at hx, by simp [Dc.val], fun _ x l' e => by simp at e, by simp⟩⟩
  case round =>
    obtain ⟨x, zs, rfl, hx1, hx2, hown, hb, HZ⟩ := hrel
    by_cases hx0 : x = 0
    · obtain ⟨z1, z2, z3, z4⟩ := unhide HZ
      have HC := hide (z3 hx0)
      subst hx0
      have HV : Hid (Dc.val zs = (a.natAbs : Int)) := hide (by simpa using z2)
      clear HZ z2 z3
      go_wp2
      go_ret
      exact ⟨hb, _, zs, rfl, hown, z1, unhide HC, unhide HV, z4⟩
    · obtain ⟨z1, z2, z3, z4⟩ := unhide HZ
      obtain ⟨s1, s2, s3, s4⟩ := digits_step a x zs z1 z2 hx0 (by omega)
      have hxb : (x == 0) = false := by rw [beq_eq_false_iff_ne]; exact hx0
      have S := hide (And.intro s2 (And.intro s3 s4))
      have e1 : (x.tmod 10).natAbs = x.natAbs % 10 := Int.natAbs_tmod x 10
      have e2 : (x.tdiv 10).natAbs = x.natAbs / 10 := Int.natAbs_tdiv x 10
      obtain ⟨k, hk⟩ : ∃ k : Int, ((x.tmod 10).natAbs : Int) = k := ⟨_, rfl⟩
      rw [hk] at S
      have kb : 0 ≤ k ∧ k ≤ 9 := by omega
      have tb : -9 ≤ x.tmod 10 ∧ x.tmod 10 ≤ 9 := by omega
      have qb : -922337203685477580 ≤ x.tdiv 10 ∧ x.tdiv 10 ≤ 922337203685477580 := by omega
      have HM : Hid ((x.tdiv 10).natAbs < x.natAbs) := hide (by omega)
      obtain ⟨t1, t2⟩ := tb
      obtain ⟨q1, q2⟩ := qb
      have HB := hide hb
      have HO := hide hown
      have HX0 := hide hx0
      clear HZ z1 z2 z3 z4 s2 s3 s4 e1 e2 hb hown hx0
      by_cases ht : x.tmod 10 < 0
      · have ek : k = -(x.tmod 10) := by omega
        have EK := hide ek
        clear ek hk
        go_wp2_with (first
          | (at_builtin; refine wpList_append_own _ rfl _ _ 89 rfl w.heap.size 3 i0 (.int .i64 0) 1 8 Tryz.underlying89 hi hz0 hz1 hz2 rfl (by decide) _ _ _ rfl ((unhide HO).alloc _) ⟨wr.heap.size, 0, none⟩ 1 1 [.int .i64 (-(x.tmod 10))] rfl rfl (one_cell _ _ _) (one_one _) (by unfold maxLen; omega) (by omega) (by have := (unhide HB).size; simp; omega) ?_)
          | go_in)
        · intro v' w1 hown' hgrow _
          have hB := (unhide HB).size
          have R := hide (own_step (unhide HB) hB (unhide HO) hown' hgrow)
          clear hown' hgrow
          go_wp2
          go_roundw
          case rel =>
            have S' := unhide S
            rw [unhide EK] at S'
            exact ⟨_, zs ++ [-(x.tmod 10)], rfl, by omega, by omega, (unhide R).1, (unhide R).2, hide ⟨S'.1, S'.2.1, S'.2.2, by simp; omega⟩⟩
          case measure => exact unhide HM
      · have ek : k = x.tmod 10 := by omega
        have EK := hide ek
        clear ek hk
        go_wp2_with (first
          | (at_builtin; refine wpList_append_own _ rfl _ _ 89 rfl w.heap.size 3 i0 (.int .i64 0) 1 8 Tryz.underlying89 hi hz0 hz1 hz2 rfl (by decide) _ _ _ rfl ((unhide HO).alloc _) ⟨wr.heap.size, 0, none⟩ 1 1 [.int .i64 (x.tmod 10)] rfl rfl (one_cell _ _ _) (one_one _) (by unfold maxLen; omega) (by omega) (by have := (unhide HB).size; simp; omega) ?_)
          | go_in)
        · intro v' w1 hown' hgrow _
          have hB := (unhide HB).size
          have R := hide (own_step (unhide HB) hB (unhide HO) hown' hgrow)
          clear hown' hgrow
          go_wp2
          go_roundw
          case rel =>
            have S' := unhide S
            rw [unhide EK] at S'
            exact ⟨_, zs ++ [x.tmod 10], rfl, by omega, by omega, (unhide R).1, (unhide R).2, hide ⟨S'.1, S'.2.1, S'.2.2, by simp; omega⟩⟩
          case measure => exact unhide HM
end Go.Proofs.YtgoaefpkhjbkjaaGreatDoor
