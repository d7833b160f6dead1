/- The contracts of the reference's Bare and numbers, of layer 3. -/
import Derived.BigQuiet
import Derived.Deep.QuietTactic
import Derived.Laws.IdiomStrings
import Derived.Laws.Rows
import Derived.Lib.IndexBytes
import Derived.Test.YtbeijnflfmjgfaaGreatDoorRows
import Derived.WalkKit
import Derived.WalkLawsBesides
import Derived.WalkSmall
import Derived.WalkSpells
import Derived.Test.YtbeijnflfmjgfaaGreatDoorZnAA
namespace Go.Proofs.YtbeijnflfmjgfaaGreatDoor
open Go.RowKit

def cmpV (a b : Int) : Int := if a < b then -1 else if b < a then 1 else 0
set_option maxHeartbeats 1000000 in
theorem numbers_ref (a b : Int) (w : World) :
    Calls Tryz.prog 73 #[.int .i64 a, .int .i64 b] w fun e w' => e = .returned (.int .i64 (cmpV a b)) ∧ w' = w := by
  unfold cmpV
  rcases Int.lt_trichotomy a b with h | h | h
  · rw [if_pos h]
    go_enter Tryz.func73, Tryz.ntmps73
    go_wp2
    go_ret
    exact ⟨rfl, rfl⟩
  · subst h
    rw [if_neg (by omega), if_neg (by omega)]
    go_enter Tryz.func73, Tryz.ntmps73
    go_wp2
    go_ret
    exact ⟨rfl, rfl⟩
  · rw [if_neg (by omega), if_pos h]
    have h' : ¬ a < b := by omega
    go_enter Tryz.func73, Tryz.ntmps73
    go_wp2
    go_ret
    exact ⟨rfl, rfl⟩

def dl (l : List UInt8) : List UInt8 := l.dropWhile (fun c => c.toNat == 32)
theorem dl_cons_yes {c : UInt8} {l : List UInt8} (h : (c.toNat == 32) = true) : dl (c :: l) = dl l := by unfold dl; rw [List.dropWhile_cons, if_pos h]
theorem dl_cons_no {c : UInt8} {l : List UInt8} (h : (c.toNat == 32) = false) : dl (c :: l) = c :: l := by unfold dl; rw [List.dropWhile_cons, h]; rfl
def bareV (s : ByteArray) : ByteArray := ⟨(dl (dl s.data.toList).reverse).reverse.toArray⟩
theorem cons_of (t : ByteArray) (h : 0 < t.size) : t.data.toList = t[0] :: (t.extract 1 t.size).data.toList := by
  rw [Lib.extract_to_end]
  have hpos : 0 < t.data.toList.length := h
  rw [List.drop_one]
  match hl : t.data.toList, hpos with
  | a :: l, _ =>
    have e : t[0] = a := by
      have : t.data.toList[0]'(hpos) = a := by simp [hl]
      rw [← this]; rfl
    rw [e]; rfl
theorem snoc_of (t : ByteArray) (n : Nat) (h : t.size = n + 1) : t.data.toList.reverse = t[n] :: (t.extract 0 n).data.toList.reverse := by
  have hl : t.data.toList.length = n + 1 := h
  have e1 : (t.extract 0 n).data.toList = t.data.toList.take n := by
    rw [ByteArray.data_extract, Array.toList_extract]; simp [List.extract]
  have e2 : t.data.toList = t.data.toList.take n ++ [t[n]] := by
    have := List.take_succ_eq_append_getElem (l := t.data.toList) (i := n) (by omega)
    rw [List.take_of_length_le (by omega)] at this
    exact this
  rw [e1]
  conv => lhs; rw [e2]
  rw [List.reverse_append]; rfl

set_option maxRecDepth 100000 in
set_option maxHeartbeats 2000000 in
theorem bare_ref (s : ByteArray) (w : World) (hs : s.size ≤ 1000000) :
    Calls Tryz.prog 78 #[.string s] w fun e w' => e = .returned (.string (bareV s)) ∧ w' = w := by
  go_enter Tryz.func78, Tryz.ntmps78
  go_wp2
  go_loop [0] (fun v => ∃ t : ByteArray, v = .string t ∧ t.size ≤ 1000000 ∧ Hid (dl t.data.toList = dl s.data.toList)) (fun v => match v with | .string t => t.size | _ => 0)
  case atStart => exact ⟨s, rfl, hs, hide rfl⟩
  case round =>
    obtain ⟨t, rfl, ht, HD⟩ := hrel
    by_cases h0 : 0 < t.size
    · have h0' : 0 < (t.size : Int) := by omega
      have hc := cons_of t h0
      cases hx : ((t[0].toNat : Int) == 32)
      · have HT : Hid (t.data.toList = dl s.data.toList) := hide (by
          rw [← unhide HD, hc, dl_cons_no (by rw [beq_eq_false_iff_ne] at hx ⊢; omega)])
        clear hc
        go_wp2
        go_loop [0] (fun v => ∃ u : ByteArray, v = .string u ∧ u.size ≤ 1000000 ∧ Hid (dl u.data.toList.reverse = dl (dl s.data.toList).reverse)) (fun v => match v with | .string u => u.size | _ => 0)
        case atStart => exact ⟨t, rfl, ht, hide (by rw [unhide HT])⟩
        case round =>
          obtain ⟨u, rfl, hu, HU⟩ := hrel
          by_cases g0 : 0 < u.size
          · obtain ⟨n, hn⟩ : ∃ n, u.size = n + 1 := ⟨u.size - 1, by omega⟩
            have g0' : 0 < (u.size : Int) := by omega
            have en : ((u.size : Int) - 1).toNat = n := by omega
            have en1 : u.size - 1 = n := by omega
            have hlt : n < u.size := by omega
            have hc := snoc_of u n hn
            cases hy : ((u[n].toNat : Int) == 32)
            · have HE : Hid (u = bareV s) := hide (by
                have e : dl u.data.toList.reverse = u.data.toList.reverse := by rw [hc, dl_cons_no (by rw [beq_eq_false_iff_ne] at hy ⊢; omega)]
                have e2 : u.data.toList = (dl (dl s.data.toList).reverse).reverse := by rw [← unhide HU, e, List.reverse_reverse]
                unfold bareV
                rw [← e2])
              clear hc
              go_wp2
              go_ret
              exact ⟨by rw [← unhide HE]; rfl, rfl⟩
            · have HE : Hid (dl (u.extract 0 n).data.toList.reverse = dl (dl s.data.toList).reverse) := hide (by
                rw [← unhide HU, hc, dl_cons_yes (by rw [beq_iff_eq] at hy ⊢; omega)])
              have hsz : (u.extract 0 n).size = n := by rw [ByteArray.size_extract]; omega
              clear hc
              go_wp2
              exact ⟨⟨_, rfl, by omega, HE⟩, by show (u.extract 0 n).size < u.size; omega⟩
          · have hn : u.data.toList = [] := List.eq_nil_of_length_eq_zero (by have : u.data.toList.length = u.size := rfl; omega)
            have HE : Hid (u = bareV s) := hide (by
              have e2 : u.data.toList = (dl (dl s.data.toList).reverse).reverse := by rw [← unhide HU, hn]; rfl
              unfold bareV
              rw [← e2])
            have g0' : ¬ 0 < (u.size : Int) := by omega
            clear hn
            go_wp2
            go_ret
            exact ⟨by rw [← unhide HE]; rfl, rfl⟩
      · have HT : Hid (dl (t.extract 1 t.size).data.toList = dl s.data.toList) := hide (by
          rw [← unhide HD, hc, dl_cons_yes (by rw [beq_iff_eq] at hx ⊢; omega)])
        have hsz : (t.extract 1 t.size).size = t.size - 1 := by rw [ByteArray.size_extract]; omega
        clear hc
        go_wp2
        exact ⟨⟨_, rfl, by omega, HT⟩, by show (t.extract 1 t.size).size < t.size; omega⟩
    · have hn : t.data.toList = [] := List.eq_nil_of_length_eq_zero (by have : t.data.toList.length = t.size := rfl; omega)
      have HT : Hid (t.data.toList = dl s.data.toList) := hide (by rw [← unhide HD, hn]; rfl)
      have h0' : ¬ 0 < (t.size : Int) := by omega
      clear hn
      go_wp2
      go_loop [0] (fun v => ∃ u : ByteArray, v = .string u ∧ u.size ≤ 1000000 ∧ Hid (dl u.data.toList.reverse = dl (dl s.data.toList).reverse)) (fun v => match v with | .string u => u.size | _ => 0)
      case atStart => exact ⟨t, rfl, ht, hide (by rw [unhide HT])⟩
      case round =>
        obtain ⟨u, rfl, hu, HU⟩ := hrel
        by_cases g0 : 0 < u.size
        · obtain ⟨n, hn⟩ : ∃ n, u.size = n + 1 := ⟨u.size - 1, by omega⟩
          have g0' : 0 < (u.size : Int) := by omega
          have en : ((u.size : Int) - 1).toNat = n := by omega
          have en1 : u.size - 1 = n := by omega
          have hlt : n < u.size := by omega
          have hc := snoc_of u n hn
          cases hy : ((u[n].toNat : Int) == 32)
          · have HE : Hid (u = bareV s) := hide (by
              have e : dl u.data.toList.reverse = u.data.toList.reverse := by rw [hc, dl_cons_no (by rw [beq_eq_false_iff_ne] at hy ⊢; omega)]
              have e2 : u.data.toList = (dl (dl s.data.toList).reverse).reverse := by rw [← unhide HU, e, List.reverse_reverse]
              unfold bareV
              rw [← e2])
            clear hc
            go_wp2
            go_ret
            exact ⟨by rw [← unhide HE]; rfl, rfl⟩
          · have HE : Hid (dl (u.extract 0 n).data.toList.reverse = dl (dl s.data.toList).reverse) := hide (by
              rw [← unhide HU, hc, dl_cons_yes (by rw [beq_iff_eq] at hy ⊢; omega)])
            have hsz : (u.extract 0 n).size = n := by rw [ByteArray.size_extract]; omega
            clear hc
            go_wp2
            exact ⟨⟨_, rfl, by omega, HE⟩, by show (u.extract 0 n).size < u.size; omega⟩
        · have hn : u.data.toList = [] := List.eq_nil_of_length_eq_zero (by have : u.data.toList.length = u.size := rfl; omega)
          have HE : Hid (u = bareV s) := hide (by
            have e2 : u.data.toList = (dl (dl s.data.toList).reverse).reverse := by rw [← unhide HU, hn]; rfl
            unfold bareV
            rw [← e2])
          have g0' : ¬ 0 < (u.size : Int) := by omega
          clear hn
          go_wp2
          go_ret
          exact ⟨by rw [← unhide HE]; rfl, rfl⟩
end Go.Proofs.YtbeijnflfmjgfaaGreatDoor

namespace Go.Proofs.YtbeijnflfmjgfaaGreatDoor
open Go.RowKit

theorem info3 : (Tryz.prog.info? 3).map (fun i => (i.zero, i.size, i.bytes)) = some (some (.int .i64 0), 1, 8) := by kernel_rfl

theorem arr_of_owns {w : World} {B : Nat} {v : Value} {n : Nat} {zs : List Int} (hn : n = zs.length) (h : w.ownsRow B 3 1 v n (zs.map (Value.int .i64))) : Arr w v zs := by
  obtain ⟨_, h⟩ := h
  subst hn
  rcases h with ⟨rfl, h0⟩ | ⟨g, cap, cur, rfl, hg, hh, hc, _, hs, ht⟩
  · have : zs = [] := List.eq_nil_of_length_eq_zero h0
    subst this
    exact Or.inl ⟨rfl, none, 0, rfl⟩
  · refine Or.inr ⟨g, 0, cap, rfl, hc, ?_, fun i hi => ?_⟩
    · rcases Nat.lt_or_ge g w.heap.size with h' | h'
      · exact h'
      · rw [Array.getElem?_eq_none h'] at hh; cases hh
    · have h2 : (cur.toList.take (zs.length * 1))[i]? = (zs.map (Value.int .i64))[i]? := by rw [ht]
      rw [List.getElem?_take, if_pos (by omega), List.getElem?_map, List.getElem?_eq_getElem hi] at h2
      rw [Nat.zero_add, List.getD_eq_getElem?_getD, List.getElem?_eq_getElem hi]
      simp only [World.cell?, hh]
      simpa using h2

theorem fr_of_owns {w : World} {B : Nat} {v : Value} {n : Nat} {xs : List Value} (h : w.ownsRow B 3 1 v n xs) : Fr B v := by
  intro b o m c e
  rcases h.2 with ⟨rfl, _⟩ | ⟨g, cap, cur, rfl, hg, _⟩
  · cases e
  · injection e with e1
    injection e1 with e1
    injection e1 with e1
    omega

def NumPost (n : Int) (len : Nat) (w : World) (e : Ending) (w' : World) : Prop :=
  Below w.heap.size w w' ∧ ∃ v zs, e = .returned v ∧ Arr w' v zs ∧ Dc.Dig zs ∧ Dc.Cn zs ∧ Dc.val zs = n ∧ zs.length ≤ len ∧ Fr w.heap.size v

theorem val_snoc (zs : List Int) (k : Int) : Dc.val (zs ++ [k]) = Dc.val zs + 10 ^ zs.length * k := by
  rw [Dc.val_append]; simp [Dc.val]
theorem dig_snoc {zs : List Int} {k : Int} (h : Dc.Dig zs) (h0 : 0 ≤ k) (h9 : k ≤ 9) : Dc.Dig (zs ++ [k]) := by
  intro x hx
  rcases List.mem_append.1 hx with h1 | h1
  · exact h x h1
  · rw [List.mem_singleton.1 h1]; exact ⟨h0, h9⟩
theorem cn_snoc {zs : List Int} {k : Int} (h : k ≠ 0) : Dc.Cn (zs ++ [k]) := by
  intro x l' e
  have := List.append_inj_right' e rfl
  simp at this
  rw [← this]; exact h

theorem digits_step (a x : Int) (zs : List Int) (hd : Dc.Dig zs) (hv : Dc.val zs + 10 ^ zs.length * (x.natAbs : Int) = (a.natAbs : Int)) (hx : x ≠ 0) (ha : a.natAbs < 10000000000000000000) :
    zs.length ≤ 18 ∧ Dc.Dig (zs ++ [((x.tmod 10).natAbs : Int)]) ∧ Dc.val (zs ++ [((x.tmod 10).natAbs : Int)]) + 10 ^ (zs ++ [((x.tmod 10).natAbs : Int)]).length * ((x.tdiv 10).natAbs : Int) = (a.natAbs : Int) ∧
      (x.tdiv 10 = 0 → Dc.Cn (zs ++ [((x.tmod 10).natAbs : Int)])) := by
  have hn := Dc.val_nonneg zs hd
  have hp := Dc.pow_pos zs.length
  have h1 : (x.tmod 10).natAbs = x.natAbs % 10 := Int.natAbs_tmod x 10
  have h2 : (x.tdiv 10).natAbs = x.natAbs / 10 := Int.natAbs_tdiv x 10
  refine ⟨?_, dig_snoc hd (by omega) (by omega), ?_, fun h => cn_snoc (by omega)⟩
  · rcases Nat.lt_or_ge 18 zs.length with h | h
    · have h3 : (10 : Int) ^ 19 ≤ 10 ^ zs.length := Dc.pow_le (by omega)
      have h4 : (10 : Int) ^ zs.length * 1 ≤ 10 ^ zs.length * (x.natAbs : Int) := Int.mul_le_mul_of_nonneg_left (by omega) (by omega)
      have e : (10 : Int) ^ 19 = 10000000000000000000 := by decide
      omega
    · exact h
  · rw [val_snoc, List.length_append, List.length_singleton, Int.pow_succ, h1, h2, Int.mul_assoc, Int.add_assoc, ← Int.mul_add]
    rw [← hv]
    congr 2
    omega

theorem one_cell (w : World) (x : Value) (t : TypeId) : ∀ (j : Nat) u, [x][j]? = some u → (w.alloc (.cells #[x] t)).cell? ((⟨w.heap.size, 0, none⟩ : Addr).add j) = some u := by
  intro j u hj
  match j, hj with
  | 0, hj => simp at hj; subst hj; simp [Addr.add]
theorem one_one (k : Int) : ∀ u ∈ [Value.int .i64 k], u.oneCell' = true := by
  intro u hu
  simp at hu
  subst hu
  rfl

theorem own_step {B : Nat} {w wr w1 : World} {v v' : Value} {zs : List Int} {k : Int} {o : Obj} (hb : Below B w wr) (hB : B ≤ wr.heap.size) (hown : wr.ownsRow B 3 1 v zs.length (zs.map (Value.int .i64)))
    (hown' : w1.ownsRow B 3 1 v' (zs.length + 1) (zs.map (Value.int .i64) ++ [.int .i64 k])) (hgrow : (wr.alloc o).grownBy w1 v.ownBlock) :
    w1.ownsRow B 3 1 v' (zs ++ [k]).length ((zs ++ [k]).map (Value.int .i64)) ∧ Below B w w1 := by
  refine ⟨by simpa using hown', (hb.alloc hB o).grown hgrow (by simp; omega) ?_⟩
  intro j hj
  rcases hown.2 with ⟨rfl, _⟩ | ⟨g, cap, cur, rfl, hg, _⟩
  · cases hj
  · simp [Value.ownBlock] at hj; omega

set_option maxRecDepth 100000 in
set_option maxHeartbeats 2000000 in
theorem digits_ref (a : Int) (w : World) (h1 : -9223372036854775808 ≤ a) (h2 : a ≤ 9223372036854775807) :
    Calls Tryz.prog 81 #[.int .i64 a] w fun e w' => NumPost (a.natAbs : Int) 19 w e w' := by
  obtain ⟨i0, hi, hz0, hz1, hz2⟩ := info_parts info3
  go_enter Tryz.func81, Tryz.ntmps81
  go_wp2
  go_loopw [0, 3] (fun t v wr => ∃ (x : Int) (zs : List Int), t = .int .i64 x ∧ -9223372036854775808 ≤ x ∧ x ≤ 9223372036854775807 ∧ wr.ownsRow w.heap.size 3 1 v zs.length (zs.map (Value.int .i64)) ∧ Below w.heap.size w wr ∧
      Hid (Dc.Dig zs ∧ Dc.val zs + 10 ^ zs.length * (x.natAbs : Int) = (a.natAbs : Int) ∧ (x = 0 → Dc.Cn zs) ∧ zs.length ≤ 19)) (fun t _ _ => (intOf t).natAbs)
  case atStart => exact ⟨a, [], rfl, h1, h2, World.ownsRow_nil _ _ _ _, Below.refl _ _, hide ⟨fun x hx => by simp at hx, by simp [Dc.val], fun _ x l' e => by simp at e, by simp⟩⟩
  case round =>
    obtain ⟨x, zs, rfl, hx1, hx2, hown, hb, HZ⟩ := hrel
    by_cases hx0 : x = 0
    · obtain ⟨z1, z2, z3, z4⟩ := unhide HZ
      have HC := hide (z3 hx0)
      subst hx0
      have HV : Hid (Dc.val zs = (a.natAbs : Int)) := hide (by simpa using z2)
      clear HZ z2 z3
      go_wp2
      go_ret
      exact ⟨hb, _, zs, rfl, arr_of_owns rfl hown, z1, unhide HC, unhide HV, z4, fr_of_owns hown⟩
    · obtain ⟨z1, z2, z3, z4⟩ := unhide HZ
      obtain ⟨s1, s2, s3, s4⟩ := digits_step a x zs z1 z2 hx0 (by omega)
      have hxb : (x == 0) = false := by rw [beq_eq_false_iff_ne]; exact hx0
      have S := hide (And.intro s2 (And.intro s3 s4))
      have e1 : (x.tmod 10).natAbs = x.natAbs % 10 := Int.natAbs_tmod x 10
      have e2 : (x.tdiv 10).natAbs = x.natAbs / 10 := Int.natAbs_tdiv x 10
      obtain ⟨k, hk⟩ : ∃ k : Int, ((x.tmod 10).natAbs : Int) = k := ⟨_, rfl⟩
      rw [hk] at S
      have kb : 0 ≤ k ∧ k ≤ 9 := by omega
      have tb : -9 ≤ x.tmod 10 ∧ x.tmod 10 ≤ 9 := by omega
      have qb : -922337203685477580 ≤ x.tdiv 10 ∧ x.tdiv 10 ≤ 922337203685477580 := by omega
      have HM : Hid ((x.tdiv 10).natAbs < x.natAbs) := hide (by omega)
      obtain ⟨t1, t2⟩ := tb
      obtain ⟨q1, q2⟩ := qb
      have HB := hide hb
      have HO := hide hown
      have HX0 := hide hx0
      clear HZ z1 z2 z3 z4 s2 s3 s4 e1 e2 hb hown hx0
      by_cases ht : x.tmod 10 < 0
      · have ek : k = -(x.tmod 10) := by omega
        have EK := hide ek
        clear ek hk
        go_wp2_with (first
          | (at_builtin; refine wpList_append_own _ rfl _ _ 49 rfl w.heap.size 3 i0 (.int .i64 0) 1 8 Tryz.underlying49 hi hz0 hz1 hz2 rfl (by decide) _ _ _ rfl ((unhide HO).alloc _) ⟨wr.heap.size, 0, none⟩ 1 1 [.int .i64 (-(x.tmod 10))] rfl rfl (one_cell _ _ _) (one_one _) (by unfold maxLen; omega) (by omega) (by have := (unhide HB).size; simp; omega) ?_)
          | go_in)
        · intro v' w1 hown' hgrow _
          have hB := (unhide HB).size
          have R := hide (own_step (unhide HB) hB (unhide HO) hown' hgrow)
          clear hown' hgrow
          go_wp2
          go_roundw
          case rel =>
            have S' := unhide S
            rw [unhide EK] at S'
            exact ⟨_, zs ++ [-(x.tmod 10)], rfl, by omega, by omega, (unhide R).1, (unhide R).2, hide ⟨S'.1, S'.2.1, S'.2.2, by simp; omega⟩⟩
          case measure => exact unhide HM
      · have ek : k = x.tmod 10 := by omega
        have EK := hide ek
        clear ek hk
        go_wp2_with (first
          | (at_builtin; refine wpList_append_own _ rfl _ _ 49 rfl w.heap.size 3 i0 (.int .i64 0) 1 8 Tryz.underlying49 hi hz0 hz1 hz2 rfl (by decide) _ _ _ rfl ((unhide HO).alloc _) ⟨wr.heap.size, 0, none⟩ 1 1 [.int .i64 (x.tmod 10)] rfl rfl (one_cell _ _ _) (one_one _) (by unfold maxLen; omega) (by omega) (by have := (unhide HB).size; simp; omega) ?_)
          | go_in)
        · intro v' w1 hown' hgrow _
          have hB := (unhide HB).size
          have R := hide (own_step (unhide HB) hB (unhide HO) hown' hgrow)
          clear hown' hgrow
          go_wp2
          go_roundw
          case rel =>
            have S' := unhide S
            rw [unhide EK] at S'
            exact ⟨_, zs ++ [x.tmod 10], rfl, by omega, by omega, (unhide R).1, (unhide R).2, hide ⟨S'.1, S'.2.1, S'.2.2, by simp; omega⟩⟩
          case measure => exact unhide HM
end Go.Proofs.YtbeijnflfmjgfaaGreatDoor

namespace Go.Proofs.YtbeijnflfmjgfaaGreatDoor
open Go.RowKit

def okAdd (a b : Int) : Bool := goodB a && goodB b && goodB (a + b)
def addN (a b : Int) : Int := if okAdd a b = true then a + b else 0
def addE (a b : Int) : Int := if okAdd a b = true then 0 else 5
theorem okAdd_iff (a b : Int) : okAdd a b = true ↔ (-9000000000000000000 ≤ a ∧ a ≤ 9000000000000000000) ∧ (-9000000000000000000 ≤ b ∧ b ≤ 9000000000000000000) ∧ -9000000000000000000 ≤ a + b ∧ a + b ≤ 9000000000000000000 := by
  unfold okAdd; rw [Bool.and_eq_true, Bool.and_eq_true, goodB_iff, goodB_iff, goodB_iff]; omega

theorem good2_any (a b : Int) (w : World) (t : TypeId) :
    Calls Tryz.prog 88 #[.slice (some ⟨w.heap.size, 0, none⟩) 2 2] (w.alloc (.cells #[.int .i64 a, .int .i64 b] t)) fun e w' => e = .returned (.bool (goodB a && goodB b)) ∧ w' = w.alloc (.cells #[.int .i64 a, .int .i64 b] t) := by
  have h := good_any w.heap.size 0 2 2 [a, b] (w.alloc (.cells #[.int .i64 a, .int .i64 b] t)) rfl (by omega) (by
    intro i hi
    match i, hi with
    | 0, _ => simp [go_sem]
    | 1, _ => simp [go_sem])
  refine h.mono ?_
  rintro e w' ⟨rfl, rfl⟩
  exact ⟨by simp, rfl⟩

theorem good1_any (a : Int) (w : World) (t : TypeId) :
    Calls Tryz.prog 88 #[.slice (some ⟨w.heap.size, 0, none⟩) 1 1] (w.alloc (.cells #[.int .i64 a] t)) fun e w' => e = .returned (.bool (goodB a)) ∧ w' = w.alloc (.cells #[.int .i64 a] t) := by
  have h := good_any w.heap.size 0 1 1 [a] (w.alloc (.cells #[.int .i64 a] t)) rfl (by omega) (by
    intro i hi
    match i, hi with
    | 0, _ => simp [go_sem])
  refine h.mono ?_
  rintro e w' ⟨rfl, rfl⟩
  exact ⟨by simp, rfl⟩

theorem below_alloc (w : World) (o : Obj) : Below w.heap.size w (w.alloc o) := (Below.refl _ _).alloc (Nat.le_refl _) _

set_option maxHeartbeats 400000 in
theorem raw_any (a : Int) (w : World) :
    Calls Tryz.prog 56 #[.int .i64 a] w fun e w' => e = .returned (.tuple #[.int .i64 (if goodB a = true then a else 0), .int .i64 (if goodB a = true then 0 else 5)]) ∧ Below w.heap.size w w' := by
  cases hg : goodB a
  · have HG := hide hg
    clear hg
    go_enter Tryz.func56, Tryz.ntmps56
    go_wp2_with fail
    refine (good1_any _ _ _).mono ?_
    rintro e w' ⟨rfl, rfl⟩
    rw [unhide HG]
    go_wp2
    go_ret2
    exact ⟨rfl, below_alloc _ _⟩
  · have HG := hide hg
    clear hg
    go_enter Tryz.func56, Tryz.ntmps56
    go_wp2_with fail
    refine (good1_any _ _ _).mono ?_
    rintro e w' ⟨rfl, rfl⟩
    rw [unhide HG]
    go_wp2
    go_ret2
    exact ⟨rfl, below_alloc _ _⟩

def wholeB (a : Int) : Bool := decide (-900000000000000 ≤ a) && decide (a ≤ 900000000000000)
theorem wholeB_iff (a : Int) : wholeB a = true ↔ -900000000000000 ≤ a ∧ a ≤ 900000000000000 := by
  unfold wholeB; simp
theorem wholeB_not (a : Int) : wholeB a = false ↔ a < -900000000000000 ∨ 900000000000000 < a := by
  rw [← Bool.not_eq_true, wholeB_iff]; omega

set_option maxHeartbeats 400000 in
theorem of_any (a : Int) (w : World) :
    Calls Tryz.prog 135 #[.int .i64 a] w fun e w' => e = .returned (.tuple #[.int .i64 (if wholeB a = true then a * 10000 else 0), .int .i64 (if wholeB a = true then 0 else 5)]) ∧ w' = w := by
  cases hg : wholeB a
  · rw [wholeB_not] at hg
    rcases hg with hg | hg
    · go_enter Tryz.func135, Tryz.ntmps135
      go_wp2
      go_ret2
      exact ⟨rfl, rfl⟩
    · have hg' : ¬ a < -900000000000000 := by omega
      go_enter Tryz.func135, Tryz.ntmps135
      go_wp2
      go_ret2
      exact ⟨rfl, rfl⟩
  · rw [wholeB_iff] at hg
    obtain ⟨g1, g2⟩ := hg
    go_enter Tryz.func135, Tryz.ntmps135
    go_wp2
    go_ret2
    exact ⟨rfl, rfl⟩

set_option maxHeartbeats 400000 in
theorem add_yes (a b : Int) (w : World) (h : okAdd a b = true) :
    Calls Tryz.prog 60 #[.int .i64 a, .int .i64 b] w fun e w' => e = .returned (.tuple #[.int .i64 (a + b), .int .i64 0]) ∧ Below w.heap.size w w' := by
  have hg : (goodB a && goodB b) = true := by
    rw [okAdd_iff] at h; rw [Bool.and_eq_true, goodB_iff, goodB_iff]; exact ⟨h.1, h.2.1⟩
  rw [okAdd_iff] at h
  obtain ⟨⟨a1, a2⟩, ⟨b1, b2⟩, s1, s2⟩ := h
  have HG := hide hg
  clear hg
  rcases Int.lt_trichotomy b 0 with hb | rfl | hb
  · have hb' : ¬ 0 < b := by omega
    have t : ¬ a < -9000000000000000000 - b := by omega
    go_enter Tryz.func60, Tryz.ntmps60
    go_wp2_with fail
    refine (good2_any _ _ _ _).mono ?_
    rintro e w' ⟨rfl, rfl⟩
    rw [unhide HG]
    go_wp2
    go_ret2
    exact ⟨rfl, below_alloc _ _⟩
  · go_enter Tryz.func60, Tryz.ntmps60
    go_wp2_with fail
    refine (good2_any _ _ _ _).mono ?_
    rintro e w' ⟨rfl, rfl⟩
    rw [unhide HG]
    go_wp2
    go_ret2
    exact ⟨ret_ne (by omega) rfl, below_alloc _ _⟩
  · have t : ¬ 9000000000000000000 - b < a := by omega
    go_enter Tryz.func60, Tryz.ntmps60
    go_wp2_with fail
    refine (good2_any _ _ _ _).mono ?_
    rintro e w' ⟨rfl, rfl⟩
    rw [unhide HG]
    go_wp2
    go_ret2
    exact ⟨rfl, below_alloc _ _⟩

set_option maxHeartbeats 400000 in
theorem add_no (a b : Int) (w : World) (h : okAdd a b = false) :
    Calls Tryz.prog 60 #[.int .i64 a, .int .i64 b] w fun e w' => e = .returned (.tuple #[.int .i64 0, .int .i64 5]) ∧ Below w.heap.size w w' := by
  cases hg : (goodB a && goodB b)
  · have HG := hide hg
    have HH := hide h
    clear hg h
    go_enter Tryz.func60, Tryz.ntmps60
    go_wp2_with fail
    refine (good2_any _ _ _ _).mono ?_
    rintro e w' ⟨rfl, rfl⟩
    rw [unhide HG]
    go_wp2
    go_ret2
    exact ⟨rfl, below_alloc _ _⟩
  · have h' : goodB (a + b) = false := by unfold okAdd at h; rw [hg] at h; exact h
    have HG := hide hg
    rw [Bool.and_eq_true, goodB_iff, goodB_iff] at hg
    obtain ⟨⟨a1, a2⟩, b1, b2⟩ := hg
    have HH := hide h
    clear h
    rw [goodB_not] at h'
    rcases h' with h' | h'
    · have hb : b < 0 := by omega
      have hb' : ¬ 0 < b := by omega
      have t : a < -9000000000000000000 - b := by omega
      go_enter Tryz.func60, Tryz.ntmps60
      go_wp2_with fail
      refine (good2_any _ _ _ _).mono ?_
      rintro e w' ⟨rfl, rfl⟩
      rw [unhide HG]
      go_wp2
      go_ret2
      exact ⟨rfl, below_alloc _ _⟩
    · have hb : 0 < b := by omega
      have t : 9000000000000000000 - b < a := by omega
      go_enter Tryz.func60, Tryz.ntmps60
      go_wp2_with fail
      refine (good2_any _ _ _ _).mono ?_
      rintro e w' ⟨rfl, rfl⟩
      rw [unhide HG]
      go_wp2
      go_ret2
      exact ⟨rfl, below_alloc _ _⟩

theorem add_any (a b : Int) (w : World) :
    Calls Tryz.prog 60 #[.int .i64 a, .int .i64 b] w fun e w' => e = .returned (.tuple #[.int .i64 (addN a b), .int .i64 (addE a b)]) ∧ Below w.heap.size w w' := by
  unfold addN addE
  cases h : okAdd a b
  · exact add_no a b w h
  · exact add_yes a b w h

set_option maxHeartbeats 400000 in
theorem sub_any (a b : Int) (w : World) (hb1 : -9223372036854775808 ≤ b) (hb2 : b ≤ 9223372036854775807) :
    Calls Tryz.prog 50 #[.int .i64 a, .int .i64 b] w fun e w' => e = .returned (.tuple #[.int .i64 (addN a (-b)), .int .i64 (addE a (-b))]) ∧ Below w.heap.size w w' := by
  by_cases hb : b = -9223372036854775808
  · have e1 : okAdd a (- b) = false := by
      rw [← Bool.not_eq_true, okAdd_iff]; omega
    have e2 : okAdd a b = false := by
      rw [← Bool.not_eq_true, okAdd_iff]; omega
    unfold addN addE
    rw [e1]
    have E2 := hide e2
    have HB := hide hb
    clear e1 e2 hb hb1 hb2
    have ew : Hid (wrap64 (-b) = b) := hide (by rw [unhide HB]; decide +kernel)
    go_enter Tryz.func50, Tryz.ntmps50
    go_wp2_with fail
    rw [unhide ew]
    refine (add_no _ _ _ (unhide E2)).mono ?_
    rintro e w' ⟨rfl, hw⟩
    go_wp2
    go_ret2
    exact ⟨rfl, hw⟩
  · have hb' : -9223372036854775807 ≤ b := by omega
    clear hb hb1
    go_enter Tryz.func50, Tryz.ntmps50
    go_wp2_with fail
    refine (add_any _ _ _).mono ?_
    rintro e w' ⟨rfl, hw⟩
    go_wp2
    go_ret2
    exact ⟨rfl, hw⟩
end Go.Proofs.YtbeijnflfmjgfaaGreatDoor
