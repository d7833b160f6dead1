/- The contract of the reference's Join. -/
import Derived.Test.YtgoaefpkhjbkjaaGreatDoorLyP
import Derived.Test.YtgoaefpkhjbkjaaGreatDoorLxU
namespace Go.Proofs.YtgoaefpkhjbkjaaGreatDoor
open Go.RowKit

theorem join_snoc (ts : List Tk) (t : Tk) (h : ts ≠ []) : joinL (ts ++ [t]) = joinL ts ++ 32 :: showL t := by
  induction ts with
  | nil => exact absurd rfl h
  | cons a ts ih =>
    cases ts with
    | nil => rw [List.cons_append, List.nil_append, join_more, join_one, join_one]
    | cons b ts =>
      have := ih (by simp)
      rw [List.cons_append] at this
      rw [List.cons_append, List.cons_append, join_more, join_more, this]
      simp
/-- The text of the first k tokens. -/
def joinB (ts : List Tk) (k : Nat) : ByteArray := ⟨(joinL (ts.take k)).toArray⟩
theorem joinB_size (ts : List Tk) (k : Nat) (hk : k ≤ 1000) (h : ∀ t ∈ ts, t.text.size ≤ 1000) : (joinB ts k).size ≤ 3001000 := by
  show (joinL (ts.take k)).length ≤ 3001000
  have h1 := join_len (ts.take k) (fun t ht => h t (List.mem_of_mem_take ht))
  rw [List.length_take] at h1
  have : min k ts.length ≤ 1000 := by omega
  have h2 : min k ts.length * 3001 ≤ 1000 * 3001 := Nat.mul_le_mul_right _ this
  omega
theorem joinB_first (ts : List Tk) (t : Tk) (h : ts[0]? = some t) : (⟨#[]⟩ : ByteArray) ++ ⟨(showL t).toArray⟩ = joinB ts 1 := by
  unfold joinB
  rw [List.take_add_one, List.take_zero, h]
  simp only [List.nil_append, Option.toList]
  rw [join_one]
  apply ByteArray.ext
  simp
theorem joinB_next (ts : List Tk) (k : Nat) (t : Tk) (hk : 0 < k) (h : ts[k]? = some t) : (joinB ts k ++ (⟨#[32]⟩ : ByteArray)) ++ ⟨(showL t).toArray⟩ = joinB ts (k + 1) := by
  unfold joinB
  have hne : ts.take k ≠ [] := by
    intro e
    have := congrArg List.length e
    rw [List.length_take, List.length_nil] at this
    have h2 := (List.getElem?_eq_some_iff.1 h).1
    omega
  rw [List.take_add_one, h]
  simp only [Option.toList]
  rw [join_snoc _ _ hne]
  apply ByteArray.ext
  simp
set_option maxRecDepth 100000 in
set_option maxHeartbeats 4000000 in
theorem join5_ref (a : Option Addr) (cap : Nat) (ts : List Tk) (w : World) (hin : ToksIn w a ts) (hcnt : ts.length ≤ 1000) (htx : ∀ t ∈ ts, t.text.size ≤ 1000) :
    Calls Tryz.prog 13 #[.slice a ts.length cap] w fun e w' => e = .returned (.string ⟨(joinL ts).toArray⟩) ∧ Below w.heap.size w w' := by
  have HI := hide hin
  have HTX := hide htx
  have HSH := hide (fun (t : Tk) w h => show5_ref t w h)
  obtain ⟨N, hN⟩ : ∃ N, ts.length = N := ⟨_, rfl⟩
  rw [hN] at hcnt ⊢
  have HN := hide hN
  clear hin htx hN
  go_enter Tryz.func13, Tryz.ntmps13
  go_wp2
  go_loopw [3, 4] (fun v t wr => ∃ k : Nat, v = .string (joinB ts k) ∧ t = .int .i64 (k : Int) ∧ k ≤ N ∧ Hid (Below w.heap.size w wr)) (fun _ t _ => N - (intOf t).toNat)
  case atStart => exact ⟨0, rfl, rfl, Nat.zero_le _, hide (Below.refl _ _)⟩
  case round =>
    obtain ⟨k, rfl, rfl, hk, HB⟩ := hrel
    have hjs := joinB_size ts k (by omega) (unhide HTX)
    by_cases hkl : k < N
    · obtain ⟨t, ht⟩ : ∃ t, ts[k]? = some t := ⟨_, List.getElem?_eq_getElem (by rw [unhide HN]; exact hkl)⟩
      have HI1 := hide (toks_below (unhide HI) (unhide HB))
      obtain ⟨g, off, rfl, hg, hc⟩ : ∃ g off, a = some ⟨g, off, none⟩ ∧ g < wr.heap.size ∧ ∀ (i : Nat) (t : Tk), ts[i]? = some t → ∀ (j : Nat) (u : Value), t.cells[j]? = some u → wr.cell? ⟨g, off + i * 16 + j, none⟩ = some u := by
        rcases unhide HI1 with h | h
        · exfalso
          have := unhide HN
          rw [h] at this
          simp at this
          omega
        · exact h
      have hmem : t ∈ ts := List.mem_of_getElem? ht
      have hts := unhide HTX t hmem
      have HSH1 := hide (fun w => unhide HSH t w hts)
      have hsl := show_len t hts
      obtain ⟨sb, hsb⟩ : ∃ sb : ByteArray, (⟨(showL t).toArray⟩ : ByteArray) = sb := ⟨_, rfl⟩
      have hss : sb.size ≤ 3000 := by rw [← hsb]; exact hsl
      rw [hsb] at HSH1
      obtain ⟨v_0, v_1, v_2, v_3, v_4, v_5, v_6, v_7, v_8, v_9, v_10, v_11, v_12, v_13, v_14, v_15⟩ := toks_at hc k t ht
      unfold Tk.cells at HSH1
      have HHT := hide ht
      have HSB := hide hsb
      clear hc hmem HI1 hts hsl ht hsb hg
      by_cases hk0 : k = 0
      · have hki : ¬ 0 < (k : Int) := by omega
        have HJ : Hid ((⟨#[]⟩ : ByteArray) ++ sb = joinB ts (k + 1)) := hide (by
          rw [← unhide HSB]
          subst hk0
          exact joinB_first ts t (unhide HHT))
        have ej : joinB ts k = ⟨#[]⟩ := by subst hk0; unfold joinB; rw [List.take_zero]; rfl
        rw [ej]
        have z0 : (⟨#[]⟩ : ByteArray).size = 0 := rfl
        have y1 : (9223372036854775807 < (⟨#[]⟩ : ByteArray).size + sb.size) = False := by rw [z0]; exact eq_false (by omega)
        have y2 : (⟨#[]⟩ : ByteArray).size + sb.size ≤ 9223372036854775807 := by rw [z0]; omega
        clear ej hjs hk0
        go_wp2_with fail
        refine (unhide HSH1 _).mono ?_
        rintro e wk ⟨rfl, bk⟩
        have HB2 := hide (below_nx (unhide HB) bk)
        clear bk v_0 v_1 v_2 v_3 v_4 v_5 v_6 v_7 v_8 v_9 v_10 v_11 v_12 v_13 v_14 v_15
        go_wp2
        go_roundw
        case rel => exact ⟨k + 1, by first | rw [← unhide HJ] | (congr 1; exact unhide HJ), by go_num, by omega, HB2⟩
        case measure => simp [intOf]; omega
      · have hkp : 0 < k := by omega
        have hki : 0 < (k : Int) := by omega
        have HJ := hide (joinB_next ts k t hkp (unhide HHT))
        rw [unhide HSB] at HJ
        obtain ⟨jb, hjb⟩ : ∃ jb, joinB ts k = jb := ⟨_, rfl⟩
        rw [hjb] at hjs HJ ⊢
        have z1 : (⟨#[32]⟩ : ByteArray).size = 1 := rfl
        have z2 : (jb ++ (⟨#[32]⟩ : ByteArray)).size = jb.size + 1 := by rw [ByteArray.size_append, z1]
        have y1 : (9223372036854775807 < jb.size + (⟨#[32]⟩ : ByteArray).size) = False := by rw [z1]; exact eq_false (by omega)
        have y2 : (9223372036854775807 < (jb ++ (⟨#[32]⟩ : ByteArray)).size + sb.size) = False := by rw [z2]; exact eq_false (by omega)
        have y3 : jb.size + (⟨#[32]⟩ : ByteArray).size ≤ 9223372036854775807 := by rw [z1]; omega
        have y4 : (jb ++ (⟨#[32]⟩ : ByteArray)).size + sb.size ≤ 9223372036854775807 := by rw [z2]; omega
        clear hjb hk0
        go_wp2_with fail
        refine (unhide HSH1 _).mono ?_
        rintro e wk ⟨rfl, bk⟩
        have HB2 := hide (below_nx (unhide HB) bk)
        clear bk v_0 v_1 v_2 v_3 v_4 v_5 v_6 v_7 v_8 v_9 v_10 v_11 v_12 v_13 v_14 v_15
        go_wp2
        go_roundw
        case rel => exact ⟨k + 1, by rw [← unhide HJ], by go_num, by omega, HB2⟩
        case measure => simp [intOf]; omega
    · have ek : k = N := by omega
      subst ek
      have EJ : Hid (joinB ts k = ⟨(joinL ts).toArray⟩) := hide (by
        unfold joinB
        rw [List.take_of_length_le (by rw [unhide HN]; exact Nat.le_refl _)])
      go_wp2
      go_ret
      exact ⟨by rw [← unhide EJ]; rfl, unhide HB⟩
end Go.Proofs.YtgoaefpkhjbkjaaGreatDoor
