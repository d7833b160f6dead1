/- The contracts of Text of a cell and a reference, of column; of the reference's RefText. -/
import Derived.Test.YtlgmpoofcdkaeaaDoorAdE
import Derived.Test.YtlgmpoofcdkaeaaDoorAdB
namespace Go.Proofs.YtlgmpoofcdkaeaaDoor
open Go.RowKit

theorem add4 (a b : ByteArray) (w : World) (h : a.size + b.size ≤ 1000000) : (binOp .add 9 (.string a) (.string b)).run Tryd.prog w = .ok (.string (a ++ b)) w := by
  have u := Tryd.underlying9
  go_simp
  omega
def Rf.cells (r : Rf) : Array Value := #[.int .i64 r.col, .int .i64 r.row, .bool r.fc, .bool r.fr]
theorem dlr_len (b : Bool) : (dlr b).length ≤ 1 := by cases b <;> decide
theorem dgT_len (n : Nat) : (dgT n).length ≤ 4 := by unfold dgT; split; exact (by decide : 1 ≤ 4); split; exact (by decide : 2 ≤ 4); split; exact (by decide : 3 ≤ 4); exact (by decide : 4 ≤ 4)
theorem colT_len (n : Nat) : (colT n).length ≤ 2 := by unfold colT; split; exact (by decide : 1 ≤ 2); exact (by decide : 2 ≤ 2)
theorem refT_len (r : Rf) : (refT r).length ≤ 8 := by
  unfold refT
  split
  · rw [List.length_append, List.length_append, List.length_append]
    have := dlr_len r.fc
    have := dlr_len r.fr
    have := colT_len r.col.toNat
    have := dgT_len (r.row.toNat + 1)
    omega
  · exact (by decide : 0 ≤ 8)

set_option maxRecDepth 100000 in
set_option maxHeartbeats 4000000 in
theorem refText_val (r : Rf) (w : World) (he : Env4 w) :
    Calls Tryd.prog 16 #[.agg r.cells] w fun e w' => e = .returned (.string ⟨(refT r).toArray⟩) ∧ Below w.heap.size w w' := by
  unfold Rf.cells
  have HE := hide he
  clear he
  have HG := hide (fun w => cellGood_val r.col r.row w)
  cases hg : cellG r.col r.row
  · have ht : refT r = [] := by unfold refT; rw [hg]; rfl
    rw [ht]
    rw [hg] at HG
    clear hg ht
    go_enter Tryd.func16, Tryd.ntmps16
    go_wp2_with fail
    refine (unhide HG _).mono ?_
    rintro e w1 ⟨rfl, b1⟩
    have HB := hide (below_nx (below_al w (.cells #[.int .i64 r.col, .int .i64 r.row, .bool r.fc, .bool r.fr] 29)) b1)
    clear b1
    go_wp2
    go_ret
    exact ⟨rfl, unhide HB⟩
  · rw [hg] at HG
    obtain ⟨c, d, f, g⟩ := r
    simp only [] at HG hg ⊢
    obtain ⟨g1, g2, g3, g4⟩ := (cellG_iff _ _).1 hg
    obtain ⟨n, rfl⟩ : ∃ n : Nat, c = (n : Int) := ⟨c.toNat, by omega⟩
    obtain ⟨m, rfl⟩ : ∃ m : Nat, d = (m : Int) := ⟨d.toNat, by omega⟩
    have HT : Hid (refT ⟨(n : Int), (m : Int), f, g⟩ = dlr f ++ colT n ++ dlr g ++ dgT (m + 1)) := hide (by rw [refT_good _ hg]; rfl)
    have HL := hide (fun w => letters_val n w (by omega))
    have HI : Hid (∀ w, Env4 w → Calls Tryd.prog 40 #[.int .i64 ((m : Int) + 1)] w fun e w' => e = .returned (.string ⟨(dgT (m + 1)).toArray⟩) ∧ Below w.heap.size w w') := hide (fun w he => by
      have h := itoa4 (m + 1) w (by omega) he
      rw [Int.natCast_add] at h
      exact h)
    have HM := hide (fun b w => mark_val b w)
    have z1 : (⟨(dlr f).toArray⟩ : ByteArray).size ≤ 1 := dlr_len f
    have z2 : (⟨(colT n).toArray⟩ : ByteArray).size ≤ 2 := colT_len n
    have z3 : (⟨(dlr g).toArray⟩ : ByteArray).size ≤ 1 := dlr_len g
    have z4 : (⟨(dgT (m + 1)).toArray⟩ : ByteArray).size ≤ 4 := dgT_len (m + 1)
    have HR : Hid ((⟨(dlr f).toArray⟩ : ByteArray) ++ ⟨(colT n).toArray⟩ ++ ⟨(dlr g).toArray⟩ ++ ⟨(dgT (m + 1)).toArray⟩ = ⟨(refT ⟨(n : Int), (m : Int), f, g⟩).toArray⟩) := hide (by rw [app4, app4, app4, unhide HT])
    generalize (⟨(refT ⟨(n : Int), (m : Int), f, g⟩).toArray⟩ : ByteArray) = T at HR ⊢
    obtain ⟨D, hD⟩ : ∃ D : Bool → ByteArray, ∀ b, (⟨(dlr b).toArray⟩ : ByteArray) = D b := ⟨fun b => ⟨(dlr b).toArray⟩, fun _ => rfl⟩
    simp only [hD] at HM HR z1 z3
    clear hD
    generalize (⟨(colT n).toArray⟩ : ByteArray) = L at z2 HL HR
    generalize (⟨(dgT (m + 1)).toArray⟩ : ByteArray) = G at z4 HI HR
    clear hg HT
    have HQ1 : Hid ((9223372036854775807 < (D f).size + L.size) = False) := hide (eq_false (by omega))
    have HQ2 : Hid ((9223372036854775807 < (D f).size + L.size + (D g).size) = False) := hide (eq_false (by omega))
    have HQ3 : Hid ((9223372036854775807 < (D f).size + L.size + (D g).size + G.size) = False) := hide (eq_false (by omega))
    have hwr : IntKind.i64.wrap ((m : Int) + 1) = (m : Int) + 1 := IntWalk.i64_in _ (by omega)
    clear z1 z2 z3 z4
    go_enter Tryd.func16, Tryd.ntmps16
    go_wp2_with fail
    refine (unhide HG _).mono ?_
    rintro e w1 ⟨rfl, b1⟩
    have P := hide (cells_nx (cells_new w 29 #[.int .i64 (n : Int), .int .i64 (m : Int), .bool f, .bool g]) b1)
    have HB := hide (below_nx (below_al w (.cells #[.int .i64 (n : Int), .int .i64 (m : Int), .bool f, .bool g] 29)) b1)
    clear b1
    go_wp2_with fail
    replace P := hide (cells_drew (unhide P))
    replace HB := hide (unhide HB).drew
    obtain ⟨p0, p1, p2, p3⟩ := cells4 (unhide P)
    have q1 := unhide HQ1
    have q2 := unhide HQ2
    have q3 := unhide HQ3
    go_region_held3 (fun w' => w'.cell? ⟨w.heap.size, 0, none⟩ = some (.int .i64 (n : Int)) ∧ w'.cell? ⟨w.heap.size, 1, none⟩ = some (.int .i64 (m : Int)) ∧ w'.cell? ⟨w.heap.size, 2, none⟩ = some (.bool f) ∧ w'.cell? ⟨w.heap.size, 3, none⟩ = some (.bool g)) (first | exact ⟨p0, p1, p2, p3⟩ | go_keep)
      (first
        | (go_at_call 38; refine (unhide HM _ _).mono ?_; rintro e yy ⟨rfl, zz⟩; replace P := hide (cells_nx (unhide P) zz); replace HB := hide (below_nx (unhide HB) zz); clear zz p0 p1 p2 p3; obtain ⟨p0, p1, p2, p3⟩ := cells4 (unhide P))
        | (go_at_call 39; refine (unhide HL _).mono ?_; rintro e yy ⟨rfl, zz⟩; replace P := hide (cells_nx (unhide P) zz); replace HB := hide (below_nx (unhide HB) zz); clear zz p0 p1 p2 p3; obtain ⟨p0, p1, p2, p3⟩ := cells4 (unhide P))
        | (go_at_call 40; refine (unhide HI _ ((unhide HE).below (unhide HB))).mono ?_; rintro e yy ⟨rfl, zz⟩; replace P := hide (cells_nx (unhide P) zz); replace HB := hide (below_nx (unhide HB) zz); clear zz p0 p1 p2 p3; obtain ⟨p0, p1, p2, p3⟩ := cells4 (unhide P)))
    all_goals (try go_wp2_with fail)
    all_goals go_ret
    all_goals exact ⟨by rw [← unhide HR]; rfl, unhide HB⟩

set_option maxRecDepth 100000 in
set_option maxHeartbeats 2000000 in
theorem cellText_val (c r : Int) (w : World) (he : Env4 w) :
    Calls Tryd.prog 17 #[.agg #[.int .i64 c, .int .i64 r]] w fun e w' => e = .returned (.string ⟨(refT ⟨c, r, false, false⟩).toArray⟩) ∧ Below w.heap.size w w' := by
  have HE := hide he
  clear he
  have HR : Hid (∀ w, Env4 w → Calls Tryd.prog 16 #[.agg #[.int .i64 c, .int .i64 r, .bool false, .bool false]] w fun e w' => e = .returned (.string ⟨(refT ⟨c, r, false, false⟩).toArray⟩) ∧ Below w.heap.size w w') := hide (fun w he => refText_val ⟨c, r, false, false⟩ w he)
  generalize (⟨(refT ⟨c, r, false, false⟩).toArray⟩ : ByteArray) = T at HR ⊢
  have HB := hide (below_al w (.cells #[.int .i64 c, .int .i64 r] 27))
  go_enter Tryd.func17, Tryd.ntmps17
  go_wp2_with fail
  refine (unhide HR _ ((unhide HE).below (unhide HB))).mono ?_
  rintro e w1 ⟨rfl, b1⟩
  replace HB := hide (below_nx (unhide HB) b1)
  clear b1
  go_wp2
  go_ret
  exact ⟨rfl, unhide HB⟩

set_option maxRecDepth 100000 in
set_option maxHeartbeats 4000000 in
theorem refText_ref (r : Rf) (w : World) :
    Calls Tryd.prog 10 #[.agg r.cells] w fun e w' => e = .returned (.string ⟨(refT r).toArray⟩) ∧ Below w.heap.size w w' := by
  unfold Rf.cells
  have HG := hide (fun w => cell_ref r.col r.row w)
  cases hg : cellG r.col r.row
  · have ht : refT r = [] := by unfold refT; rw [hg]; rfl
    rw [ht]
    rw [hg] at HG
    clear hg ht
    go_enter Tryd.func10, Tryd.ntmps10
    go_wp2_with fail
    refine (unhide HG _).mono ?_
    rintro e w1 ⟨rfl, rfl⟩
    go_wp2
    go_ret
    exact ⟨rfl, below_al _ _⟩
  · rw [hg] at HG
    obtain ⟨c, d, f, g⟩ := r
    simp only [] at HG hg ⊢
    obtain ⟨g1, g2, g3, g4⟩ := (cellG_iff _ _).1 hg
    obtain ⟨n, rfl⟩ : ∃ n : Nat, c = (n : Int) := ⟨c.toNat, by omega⟩
    obtain ⟨m, rfl⟩ : ∃ m : Nat, d = (m : Int) := ⟨d.toNat, by omega⟩
    have HT : Hid (refT ⟨(n : Int), (m : Int), f, g⟩ = dlr f ++ colT n ++ dlr g ++ dgT (m + 1)) := hide (by rw [refT_good _ hg]; rfl)
    have HC := hide (fun w => columns_ref n w (by omega))
    have HD : Hid (∀ w, Calls Tryd.prog 35 #[.int .i64 ((m : Int) + 1)] w fun e w' => e = .returned (.string ⟨(dgT (m + 1)).toArray⟩) ∧ Below w.heap.size w w') := hide (fun w => by
      have h := digits4_ref (m + 1) w (by omega)
      rw [Int.natCast_add] at h
      exact h)
    have z2 : (⟨(colT n).toArray⟩ : ByteArray).size ≤ 2 := colT_len n
    have z4 : (⟨(dgT (m + 1)).toArray⟩ : ByteArray).size ≤ 4 := dgT_len (m + 1)
    have HR : Hid ((⟨(dlr f).toArray⟩ : ByteArray) ++ ⟨(colT n).toArray⟩ ++ ⟨(dlr g).toArray⟩ ++ ⟨(dgT (m + 1)).toArray⟩ = ⟨(refT ⟨(n : Int), (m : Int), f, g⟩).toArray⟩) := hide (by rw [app4, app4, app4, unhide HT])
    generalize (⟨(refT ⟨(n : Int), (m : Int), f, g⟩).toArray⟩ : ByteArray) = T at HR ⊢
    generalize (⟨(colT n).toArray⟩ : ByteArray) = L at z2 HC HR
    generalize (⟨(dgT (m + 1)).toArray⟩ : ByteArray) = G at z4 HD HR
    clear hg HT
    cases f
    · cases g
      · replace HR : Hid (L ++ G = T) := hide (by rw [← unhide HR]; show L ++ G = (⟨#[]⟩ ++ L ++ ⟨#[]⟩ ++ G : ByteArray); apply ByteArray.ext; simp)
        go_enter Tryd.func10, Tryd.ntmps10
        go_wp2_with fail
        refine (unhide HG _).mono ?_
        rintro e wHG ⟨rfl, rfl⟩
        go_wp2_with fail
        refine (unhide HC _).mono ?_
        rintro e wHC ⟨rfl, b1⟩
        have P := hide (cells_nx (cells_new w 33 #[.int .i64 (n : Int), .int .i64 (m : Int), .bool false, .bool false]) b1)
        have HB := hide (below_nx (below_al w (.cells #[.int .i64 (n : Int), .int .i64 (m : Int), .bool false, .bool false] 33)) b1)
        clear b1
        obtain ⟨p0, p1, p2, p3⟩ := cells4 (unhide P)
        go_wp2_with fail
        refine (unhide HD _).mono ?_
        rintro e w3 ⟨rfl, b3⟩
        replace HB := hide (below_nx (unhide HB) b3)
        clear b3 p0 p1 p2 p3
        go_wp2
        go_ret
        exact ⟨by rw [← unhide HR]; rfl, unhide HB⟩
      · replace HR : Hid (L ++ ⟨#[36]⟩ ++ G = T) := hide (by rw [← unhide HR]; show L ++ ⟨#[36]⟩ ++ G = (⟨#[]⟩ ++ L ++ ⟨#[36]⟩ ++ G : ByteArray); apply ByteArray.ext; simp)
        go_enter Tryd.func10, Tryd.ntmps10
        go_wp2_with fail
        refine (unhide HG _).mono ?_
        rintro e wHG ⟨rfl, rfl⟩
        go_wp2_with fail
        refine (unhide HC _).mono ?_
        rintro e wHC ⟨rfl, b1⟩
        have P := hide (cells_nx (cells_new w 33 #[.int .i64 (n : Int), .int .i64 (m : Int), .bool false, .bool true]) b1)
        have HB := hide (below_nx (below_al w (.cells #[.int .i64 (n : Int), .int .i64 (m : Int), .bool false, .bool true] 33)) b1)
        clear b1
        obtain ⟨p0, p1, p2, p3⟩ := cells4 (unhide P)
        go_wp2_with fail
        refine (unhide HD _).mono ?_
        rintro e w3 ⟨rfl, b3⟩
        replace HB := hide (below_nx (unhide HB) b3)
        clear b3 p0 p1 p2 p3
        go_wp2
        go_ret
        exact ⟨by rw [← unhide HR]; rfl, unhide HB⟩
    · cases g
      · replace HR : Hid (⟨#[36]⟩ ++ L ++ G = T) := hide (by rw [← unhide HR]; show ⟨#[36]⟩ ++ L ++ G = (⟨#[36]⟩ ++ L ++ ⟨#[]⟩ ++ G : ByteArray); apply ByteArray.ext; simp)
        go_enter Tryd.func10, Tryd.ntmps10
        go_wp2_with fail
        refine (unhide HG _).mono ?_
        rintro e wHG ⟨rfl, rfl⟩
        go_wp2_with fail
        refine (unhide HC _).mono ?_
        rintro e wHC ⟨rfl, b1⟩
        have P := hide (cells_nx (cells_new w 33 #[.int .i64 (n : Int), .int .i64 (m : Int), .bool true, .bool false]) b1)
        have HB := hide (below_nx (below_al w (.cells #[.int .i64 (n : Int), .int .i64 (m : Int), .bool true, .bool false] 33)) b1)
        clear b1
        obtain ⟨p0, p1, p2, p3⟩ := cells4 (unhide P)
        go_wp2_with fail
        refine (unhide HD _).mono ?_
        rintro e w3 ⟨rfl, b3⟩
        replace HB := hide (below_nx (unhide HB) b3)
        clear b3 p0 p1 p2 p3
        go_wp2
        go_ret
        exact ⟨by rw [← unhide HR]; rfl, unhide HB⟩
      · go_enter Tryd.func10, Tryd.ntmps10
        go_wp2_with fail
        refine (unhide HG _).mono ?_
        rintro e wHG ⟨rfl, rfl⟩
        go_wp2_with fail
        refine (unhide HC _).mono ?_
        rintro e wHC ⟨rfl, b1⟩
        have P := hide (cells_nx (cells_new w 33 #[.int .i64 (n : Int), .int .i64 (m : Int), .bool true, .bool true]) b1)
        have HB := hide (below_nx (below_al w (.cells #[.int .i64 (n : Int), .int .i64 (m : Int), .bool true, .bool true] 33)) b1)
        clear b1
        obtain ⟨p0, p1, p2, p3⟩ := cells4 (unhide P)
        go_wp2_with fail
        refine (unhide HD _).mono ?_
        rintro e w3 ⟨rfl, b3⟩
        replace HB := hide (below_nx (unhide HB) b3)
        clear b3 p0 p1 p2 p3
        go_wp2
        go_ret
        exact ⟨by rw [← unhide HR]; rfl, unhide HB⟩
theorem colV_snoc (l : List UInt8) (c : UInt8) : colV (l ++ [c]) = colV l * 26 + ((upL c).toNat - 65) + 1 := by
  unfold colV; rw [List.foldl_append]; rfl
theorem up_let (c : UInt8) (h : isLet c = true) : 65 ≤ (upL c).toNat ∧ (upL c).toNat ≤ 90 := by
  unfold isLet at h
  unfold upL
  simp at h
  split
  · rw [UInt8.toNat_ofNat']; omega
  · omega
theorem colV_le : ∀ (l : List UInt8), l.all isLet = true → l.length ≤ 3 → colV l ≤ 18278 := by
  intro l hl h3
  have one : ∀ c, isLet c = true → (upL c).toNat - 65 ≤ 25 := fun c hc => by have := up_let c hc; omega
  match l, h3 with
  | [], _ => decide
  | [a], _ =>
    simp at hl
    have := one a hl
    show 0 * 26 + ((upL a).toNat - 65) + 1 ≤ 18278
    omega
  | [a, b], _ =>
    simp at hl
    have := one a hl.1
    have := one b hl.2
    show (0 * 26 + ((upL a).toNat - 65) + 1) * 26 + ((upL b).toNat - 65) + 1 ≤ 18278
    omega
  | [a, b, c], _ =>
    simp at hl
    have := one a hl.1
    have := one b hl.2.1
    have := one c hl.2.2
    show ((0 * 26 + ((upL a).toNat - 65) + 1) * 26 + ((upL b).toNat - 65) + 1) * 26 + ((upL c).toNat - 65) + 1 ≤ 18278
    omega
theorem byteAt_map (f : UInt8 → UInt8) (s : ByteArray) (k : Nat) (h : k < s.size) : byteAt (mapB f s) k = f s[k] := by
  have hk : k < s.data.toList.length := h
  unfold byteAt mapB
  show (s.data.toList.map f).getD k 0 = _
  rw [List.getD_eq_getElem?_getD, List.getElem?_map, List.getElem?_eq_getElem hk]
  rfl

set_option maxRecDepth 100000 in
set_option maxHeartbeats 2000000 in
theorem column_val (s : ByteArray) (w : World) (h3 : s.size ≤ 3) (hl : s.data.toList.all isLet = true) :
    Calls Tryd.prog 56 #[.string s] w fun e w' => e = .returned (.int .i64 ((colV s.data.toList : Int) - 1)) ∧ Below w.heap.size w w' := by
  have HU := hide (fun w => upper_val s w (by omega))
  have hm : (mapB upC s).size = s.size := mapB_size upC s
  have HM := hide hm
  have HL := hide hl
  have HX : Hid (∀ k (h : k < s.size), byteAt (mapB upC s) k = upL s[k]) := hide (fun k h => byteAt_map upC s k h)
  generalize mapB upC s = U at HU hm HX HM
  clear hl
  go_enter Tryd.func56, Tryd.ntmps56
  go_wp2_with fail
  refine (unhide HU _).mono ?_
  rintro e w1 ⟨rfl, b1⟩
  have hc := run_bytes_of_string (P := Tryd.prog) w1 9 67 5 U Tryd.underlying9 Tryd.underlying67 Tryd.underlying5
  obtain ⟨c, hcc⟩ : ∃ c, grownCap w1 U.size 0 5 = c := ⟨_, rfl⟩
  rw [hcc] at hc
  clear hcc
  have HT := hide (turn_start id U w1 c)
  have HB : Hid (Below w.heap.size w (w1.drew.alloc (.cells (bytesRow U c) 5 ((bytesRow U c).size, (bytesRow U c).size + 1)))) := hide (b1.drew.alloc b1.size _)
  clear b1
  obtain ⟨w0, hw0⟩ : ∃ w0, w1.drew.alloc (.cells (bytesRow U c) 5 ((bytesRow U c).size, (bytesRow U c).size + 1)) = w0 := ⟨_, rfl⟩
  rw [hw0] at hc HT HB
  clear hw0
  rw [hm] at hc
  obtain ⟨n, hn⟩ : ∃ n, s.size = n := ⟨_, rfl⟩
  rw [hn] at hc h3 hm
  have HN := hide hn
  clear hn hm
  go_wp2
  clear hc
  go_loop [3, 10] (fun t i => ∃ k : Nat, i = .int .i64 (k : Int) ∧ k ≤ n ∧ t = .int .i64 ((colV (s.data.toList.take k) : Nat) : Int)) (fun _ i => n - (intOf i).toNat)
  case atStart => exact ⟨0, rfl, by omega, rfl⟩
  case round =>
    obtain ⟨k, rfl, hk, rfl⟩ := hrel
    have hak : (s.data.toList.take k).all isLet = true := by
      have := unhide HL
      rw [← List.take_append_drop k s.data.toList, List.all_append, Bool.and_eq_true] at this
      exact this.1
    have hv := colV_le _ hak (by rw [List.length_take]; omega)
    clear hak
    by_cases hlt : k < n
    · have hks : k < s.size := by have := unhide HN; omega
      have hub := up_let s[k] (by
        have := unhide HL
        rw [List.all_eq_true] at this
        exact this _ (by show s.data.toList[k]'hks ∈ _; exact List.getElem_mem _))
      have HS : Hid (colV (s.data.toList.take (k + 1)) = colV (s.data.toList.take k) * 26 + ((upL s[k]).toNat - 65) + 1) := hide (by rw [take_snoc4 s k hks, colV_snoc])
      obtain ⟨c0, f0⟩ := (unhide HT).2 k (by have := unhide HM; have := unhide HN; omega)
      rw [if_neg (by omega), unhide HX k hks] at c0
      obtain ⟨x, hx⟩ : ∃ x, (upL s[k]).toNat = x := ⟨_, rfl⟩
      rw [hx] at c0 hub HS
      clear hx hks
      obtain ⟨v, hvv⟩ : ∃ v, colV (s.data.toList.take k) = v := ⟨_, rfl⟩
      rw [hvv] at hv HS ⊢
      clear hvv
      go_wp2
      go_round
      case rel => exact ⟨k + 1, by go_num, by omega, by rw [unhide HS]; congr 1; omega⟩
      case measure => simp [intOf]; omega
    · have e : s.data.toList.take k = s.data.toList := List.take_of_length_le (by show s.size ≤ k; have := unhide HN; omega)
      rw [e] at hv ⊢
      clear e
      obtain ⟨v, hvv⟩ : ∃ v, colV s.data.toList = v := ⟨_, rfl⟩
      rw [hvv] at hv ⊢
      have HV := hide hvv
      clear hvv
      go_wp2
      go_ret
      exact ⟨by rw [unhide HV]; rfl, unhide HB⟩
end Go.Proofs.YtlgmpoofcdkaeaaDoor
