/- The contract of the reference's Text. -/
import Derived.Test.YtgoaefpkhjbkjaaGreatDoorRfX
import Derived.Test.YtgoaefpkhjbkjaaGreatDoorRfZ
import Derived.BigRegion
import Derived.Deep.CutRange
import Derived.Deep.CutBlock
namespace Go.Proofs.YtgoaefpkhjbkjaaGreatDoor
open Go.RowKit

def sliceLen : Value → Nat
  | .slice _ n _ => n
  | _ => 0

/-- A row of digits that is being filled up. -/
structure PadIn (zs : List Int) (p : Nat) : Prop where
  dig : Dc.Dig zs
  val : Dc.val zs = (p : Int)
  top : zs.length ≤ 5 ∨ Dc.Cn zs
  hi : zs.length ≤ 19
theorem pad_step {zs : List Int} {p : Nat} (h : PadIn zs p) (hl : zs.length < 5) : PadIn (zs ++ [0]) p :=
  ⟨dig_snoc h.dig (by omega) (by omega), by rw [val_snoc, h.val]; omega, Or.inl (by simp; omega), by simp; omega⟩
theorem pad_end {zs : List Int} {p : Nat} (h : PadIn zs p) (hl : 5 ≤ zs.length) : TextIn zs p :=
  ⟨h.dig, h.val, hl, by rcases h.top with h1 | h1; exact Or.inl (by omega); exact Or.inr h1, h.hi⟩
theorem owns_form {w : World} {B : Nat} {v : Value} {n : Nat} {xs : List Value} (h : w.ownsRow B 3 1 v n xs) : ∃ ad cap, v = .slice ad n cap := by
  rcases h.2 with ⟨rfl, h0⟩ | ⟨g, cap, cur, rfl, _⟩
  · exact ⟨none, 0, by rw [h0]⟩
  · exact ⟨_, cap, rfl⟩

theorem conv_one (w : World) (x : Int) (h0 : 0 ≤ x) (h9 : x ≤ 9) :
    (convert 56 9 (.slice (some ⟨w.heap.size, 0, none⟩) 1 1)).run Tryz.prog (w.alloc (.cells #[.int .u8 (48 + x)] 5)) = .ok (.string ⟨#[chr x]⟩) (w.alloc (.cells #[.int .u8 (48 + x)] 5)) := by
  have e : ((chr x).toNat : Int) = 48 + x := by
    unfold chr
    rw [UInt8.toNat_ofNat']
    omega
  exact run_convert_bytes_back (P := Tryz.prog) (w.alloc (.cells #[.int .u8 (48 + x)] 5)) 56 9 5 ⟨w.heap.size, 0, none⟩ 1 [chr x] Tryz.underlying56 Tryz.underlying5 Tryz.underlying9 (fun j hj => by
    have : j = 0 := by simp at hj; exact hj
    subst this
    show _ = some (Value.int .u8 ((chr x).toNat : Int))
    rw [e]
    simp [Addr.add])

theorem size_snoc (sb : ByteArray) (c : UInt8) : (sb ++ (⟨#[c]⟩ : ByteArray)).size = sb.size + 1 := by
  rw [ByteArray.size_append]; rfl
theorem list_snoc (sb : ByteArray) (c : UInt8) : (sb ++ (⟨#[c]⟩ : ByteArray)).data.toList = sb.data.toList ++ [c] := by
  rw [ByteArray.data_append, Array.toList_append]
theorem str_eq {sb : ByteArray} {l : List UInt8} (h : sb.data.toList = l) : Ending.returned (Value.string sb) = Ending.returned (Value.string ⟨l.toArray⟩) := by
  subst h; rfl

set_option maxRecDepth 100000 in
set_option maxHeartbeats 2000000 in
theorem text_ref (a : Int) (w : World) : Calls Tryz.prog 25 #[.int .i64 a] w fun e w' => e = .returned (.string ⟨(textL a).toArray⟩) ∧ Below w.heap.size w w' := by
  obtain ⟨i0, hi, hz0, hz1, hz2⟩ := info_parts info3
  cases hg : goodB a
  · have hs : textL a = [] := by unfold textL; rw [hg]; rfl
    have HG := hide hg
    rw [hs]
    clear hg hs
    go_enter Tryz.func25, Tryz.ntmps25
    go_wp2_with fail
    refine (good_ref a _).mono ?_
    rintro e w1 ⟨rfl, rfl⟩
    rw [unhide HG]
    go_wp2
    go_ret
    exact ⟨rfl, Below.refl _ _⟩
  · have HG := hide hg
    rw [goodB_iff] at hg
    obtain ⟨a1, a2⟩ := hg
    obtain ⟨l, hl⟩ : ∃ l, textL a = l := ⟨_, rfl⟩
    rw [hl]
    have HL := hide hl
    clear hl
    go_enter Tryz.func25, Tryz.ntmps25
    go_wp2_with fail
    refine (good_ref a _).mono ?_
    rintro e w1 ⟨rfl, rfl⟩
    rw [unhide HG]
    go_wp2_with fail
    refine (digits_own a _ (by omega) (by omega)).mono ?_
    rintro e w2 ⟨b2, vd, zs, rfl, x0, x2, x3, x4, x5⟩
    have HB := hide b2
    have HO := hide x0
    have HI : Hid (PadIn zs a.natAbs) := hide ⟨x2, x4, Or.inr x3, x5⟩
    clear b2 x0 x2 x3 x4 x5
    go_wp2
    go_loopw [4] (fun v wr => ∃ (ad : Option Addr) (n cap : Nat) (zs : List Int), v = .slice ad n cap ∧ n ≤ 19 ∧ Hid (zs.length = n) ∧ Hid (wr.ownsRow w1.heap.size 3 1 v n (zs.map (Value.int .i64))) ∧ Hid (Below w1.heap.size w1 wr) ∧ Hid (PadIn zs a.natAbs)) (fun v _ => 5 - sliceLen v)
    case atStart =>
      obtain ⟨ad, cap, rfl⟩ := owns_form (unhide HO)
      exact ⟨ad, zs.length, cap, zs, rfl, (unhide HI).hi, hide rfl, HO, HB, HI⟩
    case round =>
      clear HO HB HI
      obtain ⟨ad, n, cap, zs, rfl, hn, HN, HO, HB, HI⟩ := hrel
      by_cases h5 : n < 5
      · go_wp2_with (first
          | (at_builtin; refine wpList_append_own _ rfl _ _ 89 rfl w1.heap.size 3 i0 (.int .i64 0) 1 8 Tryz.underlying89 hi hz0 hz1 hz2 rfl (by decide) _ _ _ rfl ((unhide HO).alloc _) ⟨wr.heap.size, 0, none⟩ 1 1 [.int .i64 0] rfl rfl (one_cell _ _ _) (one_one _) (by unfold maxLen; omega) (by omega) (by have := (unhide HB).size; simp; omega) ?_)
          | go_in)
        · intro v' w3 hown' hgrow _
          have hB := (unhide HB).size
          have HO' := unhide HO
          rw [← unhide HN] at hown' HO' hgrow
          have R := own_step (unhide HB) hB HO' hown' hgrow
          have RL : (zs ++ [0]).length = n + 1 := by rw [List.length_append, unhide HN]; rfl
          rw [RL] at R
          obtain ⟨ad', cap', rfl⟩ := owns_form R.1
          have R := hide R
          have RL := hide RL
          have PI := hide (pad_step (unhide HI) (by rw [unhide HN]; exact h5))
          clear hown' hgrow HO'
          go_wp2
          go_roundw
          case rel => exact ⟨ad', n + 1, cap', zs ++ [0], rfl, by omega, RL, hide (unhide R).1, hide (unhide R).2, PI⟩
          case measure => simp [sliceLen]; omega
      · have TI := hide (pad_end (unhide HI) (by rw [unhide HN]; omega))
        obtain ⟨wo, rfl⟩ : ∃ wo, wo = wr := ⟨_, rfl⟩
        have HA := hide (arr_of_owns (unhide HN).symm (unhide HO))
        clear HI HO
        obtain ⟨b, o, rfl, hb, hcell⟩ : ∃ b o, ad = some ⟨b, o, none⟩ ∧ b < wo.heap.size ∧ Hid (∀ i, i < n → wo.cell? ⟨b, o + i, none⟩ = some (.int .i64 (zs.getD i 0))) := by
          rcases unhide HA with ⟨e, _⟩ | ⟨b, o, cap', e, _, hlt, hc⟩
          · exfalso; have := unhide HN; rw [e] at this; simp at this; omega
          · injection e with e1 e2 e3
            exact ⟨b, o, e1, hlt, hide (by rw [← unhide HN]; exact hc)⟩
        clear HA
        go_upto_if 22 with fail
        go_cut [5] from 22 (fun v wx => (∃ sb : ByteArray, v = .string sb ∧ sb.size ≤ 1 ∧ Hid (sb.data.toList = sgnL a)) ∧ wx = wo)
        case first =>
          by_cases ha : a < 0
          · have HS : Hid (sgnL a = [45]) := hide (by unfold sgnL; rw [if_pos ha])
            go_wp2
            go_meet
            case rel => exact ⟨⟨_, rfl, Nat.le_refl _, hide (by rw [unhide HS])⟩, rfl⟩
          · have HS : Hid (sgnL a = []) := hide (by unfold sgnL; rw [if_neg ha])
            go_wp2
            go_meet
            case rel => exact ⟨⟨_, rfl, Nat.zero_le _, hide (by rw [unhide HS])⟩, rfl⟩
        case rest =>
          obtain ⟨⟨sb, rfl, hsb, HS⟩, rfl⟩ := hcut
          go_wp2
          go_loopw [5, 6] (fun v t wr => ∃ (sb : ByteArray) (k : Nat), v = .string sb ∧ t = .int .i64 ((k : Int) - 1) ∧ 4 ≤ k ∧ k ≤ n ∧ sb.size + k ≤ 20 ∧ Hid (sb.data.toList = sgnL a ++ revT zs k) ∧ Hid (Below wc.heap.size wc wr)) (fun _ t _ => (intOf t + 1).toNat)
          case atStart => exact ⟨sb, n, rfl, rfl, by omega, Nat.le_refl _, by omega, hide (by rw [revT_full zs n (unhide HN), List.append_nil]; exact unhide HS), hide (Below.refl _ _)⟩
          case round =>
            clear hsb HS
            obtain ⟨sb, k, rfl, rfl, hk4, hkn, hsk, HS, HBL⟩ := hrel
            by_cases hk : k = 4
            · subst hk
              rw [show (((4 : Nat) : Int) - 1) = 3 from rfl]
              obtain ⟨wt, rfl⟩ : ∃ wt, wt = wr := ⟨_, rfl⟩
              go_wp2
              go_loopw [7] (fun t wr => ∃ k : Nat, t = .int .i64 (k : Int) ∧ k ≤ 4 ∧ Hid (∀ i, i < k → zs.getD i 0 = 0) ∧ Hid (Below wc.heap.size wc wr)) (fun t _ => 4 - (intOf t).toNat)
              case atStart => exact ⟨0, rfl, Nat.zero_le _, hide (fun i hi => by omega), HBL⟩
              case round =>
                clear HBL hk4 hkn
                obtain ⟨k, rfl, hk4, HZ, HBL⟩ := hrel
                by_cases hk : k = 4
                · subst hk
                  have HFIN : Hid (textL a = sgnL a ++ revT zs 4 ++ []) := hide ((unhide TI).text (unhide HG) [] ((unhide TI).zero (unhide HZ)))
                  go_wp2
                  refine wp_loop_rounds 1 ?_
                  rw [rounds_succ]
                  go_wp2
                  go_ret
                  exact ⟨str_eq (by rw [← unhide HL, unhide HFIN, List.append_nil]; exact unhide HS), below_then (unhide HB) (unhide HBL)⟩
                · have hk3 : k < 4 := by omega
                  have hc := unhide hcell k (by omega)
                  rw [← (unhide HBL).cell (p := ⟨b, o + k, none⟩) hb] at hc
                  obtain ⟨x, hx⟩ : ∃ x, zs.getD k 0 = x := ⟨_, rfl⟩
                  rw [hx] at hc
                  have HX := hide hx
                  clear hx hk
                  by_cases hx0 : x = 0
                  · subst hx0
                    go_wp2
                    exact ⟨⟨k + 1, int_eqv (by omega), by omega, hide (fun i hi => by
                      by_cases he : i = k
                      · subst he; exact unhide HX
                      · exact unhide HZ i (by omega)), HBL⟩, by simp [intOf]; omega⟩
                  · have hxb : (x == 0) = false := by rw [beq_eq_false_iff_ne]; exact hx0
                    have HFIN : Hid (textL a = sgnL a ++ revT zs 4 ++ 46 :: revT (zs.take 4) k) := hide ((unhide TI).text (unhide HG) _ ((unhide TI).part k hk3 (unhide HZ) (by rw [unhide HX]; exact hx0)))
                    have HX0 := hide hx0
                    clear hx0
                    go_wp2
                    go_loopw [5, 8] (fun v t wr => ∃ (sb : ByteArray) (j : Nat), v = .string sb ∧ t = .int .i64 ((j : Int) - 1) ∧ k ≤ j ∧ j ≤ 4 ∧ sb.size + j ≤ 30 ∧ Hid (sb.data.toList = sgnL a ++ revT zs 4 ++ 46 :: revT (zs.take 4) j) ∧ Hid (Below wc.heap.size wc wr)) (fun _ t _ => (intOf t + 1).toNat)
                    case atStart => exact ⟨_, 4, rfl, rfl, hk4, Nat.le_refl _, by rw [size_snoc]; omega, hide (by
                      rw [list_snoc, unhide HS, revT_full (zs.take 4) 4 (by rw [List.length_take, unhide HN]; omega)]), HBL⟩
                    case round =>
                      clear HS HBL hsk hc
                      obtain ⟨sb, j, rfl, rfl, hjk, hj4, hsj, HS, HBL⟩ := hrel
                      by_cases hj : j = k
                      · subst hj
                        go_wp2
                        go_ret
                        exact ⟨str_eq (by rw [← unhide HL, unhide HFIN]; exact unhide HS), below_then (unhide HB) (unhide HBL)⟩
                      · obtain ⟨m, rfl⟩ : ∃ m, j = m + 1 := ⟨j - 1, by omega⟩
                        have e1 : ((m + 1 : Nat) : Int) - 1 = (m : Int) := by omega
                        rw [e1]
                        have hmk : k ≤ m := by omega
                        clear e1 hj
                        have hmn : m < n := by omega
                        have hc := unhide hcell m hmn
                        rw [← (unhide HBL).cell (p := ⟨b, o + m, none⟩) hb] at hc
                        have hdg := (unhide TI).dig.getD m
                        obtain ⟨y, hy⟩ : ∃ y, zs.getD m 0 = y := ⟨_, rfl⟩
                        rw [hy] at hc hdg
                        have HY := hide hy
                        clear hy
                        obtain ⟨y0, y9⟩ := hdg
                        have hcv := conv_one wr y y0 y9
                        go_wp2
                        exact ⟨⟨_, m, rfl, rfl, hmk, by omega, by rw [size_snoc]; omega, hide (by
                          rw [list_snoc, unhide HS, revT_at (zs.take 4) m (by rw [List.length_take, unhide HN]; omega), getD_take zs 4 m (by omega), unhide HY]
                          simp), hide ((unhide HBL).alloc (unhide HBL).size _)⟩, by simp [intOf]⟩
            · obtain ⟨m, rfl⟩ : ∃ m, k = m + 1 := ⟨k - 1, by omega⟩
              have e1 : ((m + 1 : Nat) : Int) - 1 = (m : Int) := by omega
              rw [e1]
              have hm4 : 4 ≤ m := by omega
              clear e1 hk
              have hmn : m < n := by omega
              have hc := unhide hcell m hmn
              rw [← (unhide HBL).cell (p := ⟨b, o + m, none⟩) hb] at hc
              have hdg := (unhide TI).dig.getD m
              obtain ⟨x, hx⟩ : ∃ x, zs.getD m 0 = x := ⟨_, rfl⟩
              rw [hx] at hc hdg
              have HX := hide hx
              clear hx
              obtain ⟨x0, x9⟩ := hdg
              have hcv := conv_one wr x x0 x9
              go_wp2
              exact ⟨⟨_, m, rfl, rfl, hm4, by omega, by rw [size_snoc]; omega, hide (by
                rw [list_snoc, unhide HS, revT_at zs m (by rw [unhide HN]; exact hmn), unhide HX, List.append_assoc]), hide ((unhide HBL).alloc (unhide HBL).size _)⟩, by simp [intOf]⟩
end Go.Proofs.YtgoaefpkhjbkjaaGreatDoor
