/- The contracts of Text of a cell and a reference, of column; of the reference's RefText. -/
import Derived.BigQuiet
import Derived.Deep.CutBlock
import Derived.Deep.CutRange
import Derived.Deep.QuietTactic
import Derived.Deep.RegionHeld3
import Derived.Laws.IdiomStrings
import Derived.Laws.Rows
import Derived.Lib.Atoi
import Derived.Lib.AtoiErrMem
import Derived.Lib.CutLaws
import Derived.Lib.IndexMore
import Derived.Lib.ItoaMem
import Derived.Lib.ItoaNum
import Derived.Shelf.Bits.Mul64
import Derived.Shelf.LaysM
import Derived.Shelf.Small.Bits
import Derived.Shelf.Small.Strs
import Derived.Shelf.Small.Utf8
import Derived.Shelf.Small.Wraps
import Derived.Shelf.Strconv.Atoi
import Derived.Shelf.Strconv.Itoa0
import Derived.Shelf.Strconv.Itoa1
import Derived.Shelf.Strconv.Itoa2
import Derived.Shelf.Strconv.Itoa3
import Derived.Shelf.Strings.AsciiSet
import Derived.Shelf.Strings.Builder1
import Derived.Shelf.Strings.Builder2
import Derived.Shelf.Strings.Count
import Derived.Shelf.Strings.Cut
import Derived.Shelf.Strings.OnBuilder
import Derived.Shelf.Strings.Prefix
import Derived.Shelf.Strings.Replace
import Derived.Shelf.Strings.Runes
import Derived.Shelf.Strings.Search1
import Derived.Shelf.Strings.Search2
import Derived.Shelf.Strings.Search3
import Derived.Shelf.Strings.Shaped
import Derived.Shelf.Strings.Split
import Derived.Shelf.Strings.SplitShaped
import Derived.Shelf.Strings.Trim
import Derived.Shelf.Unicode.DecodeSlow
import Derived.Test.YtloamahbghjjgaaGreatDoorProg
import Derived.Test.YtloamahbghjjgaaGreatDoorRows
import Derived.WalkKit
import Derived.WalkLawsBesides
import Derived.WalkSmall
import Derived.WalkSpells
import Derived.Test.YtloamahbghjjgaaGreatDoorZgAA
import Derived.Test.YtloamahbghjjgaaGreatDoorZgAC
import Derived.Test.YtloamahbghjjgaaGreatDoorZgAE
import Derived.Test.YtloamahbghjjgaaGreatDoorZgAF
namespace Go.Proofs.YtloamahbghjjgaaGreatDoor
open Go.RowKit

def Rf.cells (r : Rf) : Array Value := #[.int .i64 r.col, .int .i64 r.row, .bool r.fc, .bool r.fr]
theorem dlr_len (b : Bool) : (dlr b).length ≤ 1 := by cases b <;> decide
theorem dgT_len (n : Nat) : (dgT n).length ≤ 4 := by unfold dgT; split; exact (by decide : 1 ≤ 4); split; exact (by decide : 2 ≤ 4); split; exact (by decide : 3 ≤ 4); exact (by decide : 4 ≤ 4)
theorem colT_len (n : Nat) : (colT n).length ≤ 2 := by unfold colT; split; exact (by decide : 1 ≤ 2); exact (by decide : 2 ≤ 2)
theorem refT_len (r : Rf) : (refT r).length ≤ 8 := by
  unfold refT
  split
  · rw [List.length_append, List.length_append, List.length_append]
    have := dlr_len r.fc
    have := dlr_len r.fr
    have := colT_len r.col.toNat
    have := dgT_len (r.row.toNat + 1)
    omega
  · exact (by decide : 0 ≤ 8)

set_option maxRecDepth 100000 in
set_option maxHeartbeats 4000000 in
theorem refText_val (r : Rf) (w : World) (he : Env4 w) :
    Calls Tryz.prog 71 #[.agg r.cells] w fun e w' => e = .returned (.string ⟨(refT r).toArray⟩) ∧ Below w.heap.size w w' := by
  unfold Rf.cells
  have HE := hide he
  clear he
  have HG := hide (fun w => cellGood_val r.col r.row w)
  cases hg : cellG r.col r.row
  · have ht : refT r = [] := by unfold refT; rw [hg]; rfl
    rw [ht]
    rw [hg] at HG
    clear hg ht
    go_enter Tryz.func71, Tryz.ntmps71
    go_wp2_with fail
    refine (unhide HG _).mono ?_
    rintro e w1 ⟨rfl, b1⟩
    have HB := hide (below_nx (below_al w (.cells #[.int .i64 r.col, .int .i64 r.row, .bool r.fc, .bool r.fr] 50)) b1)
    clear b1
    go_wp2
    go_ret
    exact ⟨rfl, unhide HB⟩
  · rw [hg] at HG
    obtain ⟨c, d, f, g⟩ := r
    simp only [] at HG hg ⊢
    obtain ⟨g1, g2, g3, g4⟩ := (cellG_iff _ _).1 hg
    obtain ⟨n, rfl⟩ : ∃ n : Nat, c = (n : Int) := ⟨c.toNat, by omega⟩
    obtain ⟨m, rfl⟩ : ∃ m : Nat, d = (m : Int) := ⟨d.toNat, by omega⟩
    have HT : Hid (refT ⟨(n : Int), (m : Int), f, g⟩ = dlr f ++ colT n ++ dlr g ++ dgT (m + 1)) := hide (by rw [refT_good _ hg]; rfl)
    have HL := hide (fun w => letters_val n w (by omega))
    have HI : Hid (∀ w, Env4 w → Calls Tryz.prog 116 #[.int .i64 ((m : Int) + 1)] w fun e w' => e = .returned (.string ⟨(dgT (m + 1)).toArray⟩) ∧ Below w.heap.size w w') := hide (fun w he => by
      have h := itoa4 (m + 1) w (by omega) he
      rw [Int.natCast_add] at h
      exact h)
    have HM := hide (fun b w => mark_val b w)
    have z1 : (⟨(dlr f).toArray⟩ : ByteArray).size ≤ 1 := dlr_len f
    have z2 : (⟨(colT n).toArray⟩ : ByteArray).size ≤ 2 := colT_len n
    have z3 : (⟨(dlr g).toArray⟩ : ByteArray).size ≤ 1 := dlr_len g
    have z4 : (⟨(dgT (m + 1)).toArray⟩ : ByteArray).size ≤ 4 := dgT_len (m + 1)
    have HR : Hid ((⟨(dlr f).toArray⟩ : ByteArray) ++ ⟨(colT n).toArray⟩ ++ ⟨(dlr g).toArray⟩ ++ ⟨(dgT (m + 1)).toArray⟩ = ⟨(refT ⟨(n : Int), (m : Int), f, g⟩).toArray⟩) := hide (by rw [app4, app4, app4, unhide HT])
    generalize (⟨(refT ⟨(n : Int), (m : Int), f, g⟩).toArray⟩ : ByteArray) = T at HR ⊢
    obtain ⟨D, hD⟩ : ∃ D : Bool → ByteArray, ∀ b, (⟨(dlr b).toArray⟩ : ByteArray) = D b := ⟨fun b => ⟨(dlr b).toArray⟩, fun _ => rfl⟩
    simp only [hD] at HM HR z1 z3
    clear hD
    generalize (⟨(colT n).toArray⟩ : ByteArray) = L at z2 HL HR
    generalize (⟨(dgT (m + 1)).toArray⟩ : ByteArray) = G at z4 HI HR
    clear hg HT
    have HQ1 : Hid ((9223372036854775807 < (D f).size + L.size) = False) := hide (eq_false (by omega))
    have HQ2 : Hid ((9223372036854775807 < (D f).size + L.size + (D g).size) = False) := hide (eq_false (by omega))
    have HQ3 : Hid ((9223372036854775807 < (D f).size + L.size + (D g).size + G.size) = False) := hide (eq_false (by omega))
    have hwr : IntKind.i64.wrap ((m : Int) + 1) = (m : Int) + 1 := IntWalk.i64_in _ (by omega)
    clear z1 z2 z3 z4
    go_enter Tryz.func71, Tryz.ntmps71
    go_wp2_with fail
    refine (unhide HG _).mono ?_
    rintro e w1 ⟨rfl, b1⟩
    have P := hide (cells_nx (cells_new w 50 #[.int .i64 (n : Int), .int .i64 (m : Int), .bool f, .bool g]) b1)
    have HB := hide (below_nx (below_al w (.cells #[.int .i64 (n : Int), .int .i64 (m : Int), .bool f, .bool g] 50)) b1)
    clear b1
    go_wp2_with fail
    replace P := hide (cells_drew (unhide P))
    replace HB := hide (unhide HB).drew
    obtain ⟨p0, p1, p2, p3⟩ := cells4 (unhide P)
    have q1 := unhide HQ1
    have q2 := unhide HQ2
    have q3 := unhide HQ3
    go_region_held3 (fun w' => w'.cell? ⟨w.heap.size, 0, none⟩ = some (.int .i64 (n : Int)) ∧ w'.cell? ⟨w.heap.size, 1, none⟩ = some (.int .i64 (m : Int)) ∧ w'.cell? ⟨w.heap.size, 2, none⟩ = some (.bool f) ∧ w'.cell? ⟨w.heap.size, 3, none⟩ = some (.bool g)) (first | exact ⟨p0, p1, p2, p3⟩ | go_keep)
      (first
        | (go_at_call 114; refine (unhide HM _ _).mono ?_; rintro e yy ⟨rfl, zz⟩; replace P := hide (cells_nx (unhide P) zz); replace HB := hide (below_nx (unhide HB) zz); clear zz p0 p1 p2 p3; obtain ⟨p0, p1, p2, p3⟩ := cells4 (unhide P))
        | (go_at_call 115; refine (unhide HL _).mono ?_; rintro e yy ⟨rfl, zz⟩; replace P := hide (cells_nx (unhide P) zz); replace HB := hide (below_nx (unhide HB) zz); clear zz p0 p1 p2 p3; obtain ⟨p0, p1, p2, p3⟩ := cells4 (unhide P))
        | (go_at_call 116; refine (unhide HI _ ((unhide HE).below (unhide HB))).mono ?_; rintro e yy ⟨rfl, zz⟩; replace P := hide (cells_nx (unhide P) zz); replace HB := hide (below_nx (unhide HB) zz); clear zz p0 p1 p2 p3; obtain ⟨p0, p1, p2, p3⟩ := cells4 (unhide P)))
    all_goals (try go_wp2_with fail)
    all_goals go_ret
    all_goals exact ⟨by rw [← unhide HR]; rfl, unhide HB⟩

theorem colV_snoc (l : List UInt8) (c : UInt8) : colV (l ++ [c]) = colV l * 26 + ((upL c).toNat - 65) + 1 := by
  unfold colV; rw [List.foldl_append]; rfl
theorem up_let (c : UInt8) (h : isLet c = true) : 65 ≤ (upL c).toNat ∧ (upL c).toNat ≤ 90 := by
  unfold isLet at h
  unfold upL
  simp at h
  split
  · rw [UInt8.toNat_ofNat']; omega
  · omega
theorem colV_le : ∀ (l : List UInt8), l.all isLet = true → l.length ≤ 3 → colV l ≤ 18278 := by
  intro l hl h3
  have one : ∀ c, isLet c = true → (upL c).toNat - 65 ≤ 25 := fun c hc => by have := up_let c hc; omega
  match l, h3 with
  | [], _ => decide
  | [a], _ =>
    simp at hl
    have := one a hl
    show 0 * 26 + ((upL a).toNat - 65) + 1 ≤ 18278
    omega
  | [a, b], _ =>
    simp at hl
    have := one a hl.1
    have := one b hl.2
    show (0 * 26 + ((upL a).toNat - 65) + 1) * 26 + ((upL b).toNat - 65) + 1 ≤ 18278
    omega
  | [a, b, c], _ =>
    simp at hl
    have := one a hl.1
    have := one b hl.2.1
    have := one c hl.2.2
    show ((0 * 26 + ((upL a).toNat - 65) + 1) * 26 + ((upL b).toNat - 65) + 1) * 26 + ((upL c).toNat - 65) + 1 ≤ 18278
    omega
theorem byteAt_map (f : UInt8 → UInt8) (s : ByteArray) (k : Nat) (h : k < s.size) : byteAt (mapB f s) k = f s[k] := by
  have hk : k < s.data.toList.length := h
  unfold byteAt mapB
  show (s.data.toList.map f).getD k 0 = _
  rw [List.getD_eq_getElem?_getD, List.getElem?_map, List.getElem?_eq_getElem hk]
  rfl

set_option maxRecDepth 100000 in
set_option maxHeartbeats 2000000 in
theorem column_val (s : ByteArray) (w : World) (h3 : s.size ≤ 3) (hl : s.data.toList.all isLet = true) :
    Calls Tryz.prog 241 #[.string s] w fun e w' => e = .returned (.int .i64 ((colV s.data.toList : Int) - 1)) ∧ Below w.heap.size w w' := by
  have HU := hide (fun w => upper_val s w (by omega))
  have hm : (mapB upC s).size = s.size := mapB_size upC s
  have HM := hide hm
  have HL := hide hl
  have HX : Hid (∀ k (h : k < s.size), byteAt (mapB upC s) k = upL s[k]) := hide (fun k h => byteAt_map upC s k h)
  generalize mapB upC s = U at HU hm HX HM
  clear hl
  go_enter Tryz.func241, Tryz.ntmps241
  go_wp2_with fail
  refine (unhide HU _).mono ?_
  rintro e w1 ⟨rfl, b1⟩
  have hc := run_bytes_of_string (P := Tryz.prog) w1 9 166 5 U Tryz.underlying9 Tryz.underlying166 Tryz.underlying5
  obtain ⟨c, hcc⟩ : ∃ c, grownCap w1 U.size 0 5 = c := ⟨_, rfl⟩
  rw [hcc] at hc
  clear hcc
  have HT := hide (turn_start id U w1 c)
  have HB : Hid (Below w.heap.size w (w1.drew.alloc (.cells (bytesRow U c) 5 ((bytesRow U c).size, (bytesRow U c).size + 1)))) := hide (b1.drew.alloc b1.size _)
  clear b1
  obtain ⟨w0, hw0⟩ : ∃ w0, w1.drew.alloc (.cells (bytesRow U c) 5 ((bytesRow U c).size, (bytesRow U c).size + 1)) = w0 := ⟨_, rfl⟩
  rw [hw0] at hc HT HB
  clear hw0
  rw [hm] at hc
  obtain ⟨n, hn⟩ : ∃ n, s.size = n := ⟨_, rfl⟩
  rw [hn] at hc h3 hm
  have HN := hide hn
  clear hn hm
  go_wp2
  clear hc
  go_loop [3, 10] (fun t i => ∃ k : Nat, i = .int .i64 (k : Int) ∧ k ≤ n ∧ t = .int .i64 ((colV (s.data.toList.take k) : Nat) : Int)) (fun _ i => n - (intOf i).toNat)
  case atStart => exact ⟨0, rfl, by omega, rfl⟩
  case round =>
    obtain ⟨k, rfl, hk, rfl⟩ := hrel
    have hak : (s.data.toList.take k).all isLet = true := by
      have := unhide HL
      rw [← List.take_append_drop k s.data.toList, List.all_append, Bool.and_eq_true] at this
      exact this.1
    have hv := colV_le _ hak (by rw [List.length_take]; omega)
    clear hak
    by_cases hlt : k < n
    · have hks : k < s.size := by have := unhide HN; omega
      have hub := up_let s[k] (by
        have := unhide HL
        rw [List.all_eq_true] at this
        exact this _ (by show s.data.toList[k]'hks ∈ _; exact List.getElem_mem _))
      have HS : Hid (colV (s.data.toList.take (k + 1)) = colV (s.data.toList.take k) * 26 + ((upL s[k]).toNat - 65) + 1) := hide (by rw [take_snoc4 s k hks, colV_snoc])
      obtain ⟨c0, f0⟩ := (unhide HT).2 k (by have := unhide HM; have := unhide HN; omega)
      rw [if_neg (by omega), unhide HX k hks] at c0
      obtain ⟨x, hx⟩ : ∃ x, (upL s[k]).toNat = x := ⟨_, rfl⟩
      rw [hx] at c0 hub HS
      clear hx hks
      obtain ⟨v, hvv⟩ : ∃ v, colV (s.data.toList.take k) = v := ⟨_, rfl⟩
      rw [hvv] at hv HS ⊢
      clear hvv
      go_wp2
      go_round
      case rel => exact ⟨k + 1, by go_num, by omega, by rw [unhide HS]; congr 1; omega⟩
      case measure => simp [intOf]; omega
    · have e : s.data.toList.take k = s.data.toList := List.take_of_length_le (by show s.size ≤ k; have := unhide HN; omega)
      rw [e] at hv ⊢
      clear e
      obtain ⟨v, hvv⟩ : ∃ v, colV s.data.toList = v := ⟨_, rfl⟩
      rw [hvv] at hv ⊢
      have HV := hide hvv
      clear hvv
      go_wp2
      go_ret
      exact ⟨by rw [unhide HV]; rfl, unhide HB⟩
end Go.Proofs.YtloamahbghjjgaaGreatDoor

namespace Go.Proofs.YtloamahbghjjgaaGreatDoor
open Go.RowKit

theorem infoR : (Tryz.prog.info? 50).map (·.size) = some 4 := by kernel_rfl
theorem results_c1t {P : Program} {fn : Func} {p a : Tmp} {ty : TypeId} (h : fn.results = #[.cell p ty, .tmp a]) (tmps : Array Value) (w : World) (g : Nat) (t : TypeId) (cs : Array Value) (d : TypeDesc)
    (hp : tmps.getD p undef = .pointer (some ⟨g, 0, none⟩)) (hg : CellsAt w g t cs)
    (hu : P.underlying ty = some d) (hd : (match d with | .struct _ | .array _ _ => true | _ => false) = true) (hi : (P.info? ty).map (·.size) = some cs.size)
    (x : Value) (hx : tmps.getD a undef = x) :
    (results fn tmps).run P w = .ok (.tuple #[.agg cs, x]) w := by
  have hp' : tmps[p]?.getD undef = .pointer (some ⟨g, 0, none⟩) := by simpa using hp
  have hx' : tmps[a]?.getD undef = x := by simpa using hx
  simp [results, h, hp', hx', asAddr, run_loadVar_row w g t ty cs (0, 0) d hg hu hd hi]
theorem results_c1 {P : Program} {fn : Func} {p : Tmp} {ty : TypeId} (h : fn.results = #[.cell p ty]) (tmps : Array Value) (w : World) (g : Nat) (t : TypeId) (cs : Array Value) (d : TypeDesc)
    (hp : tmps.getD p undef = .pointer (some ⟨g, 0, none⟩)) (hg : CellsAt w g t cs)
    (hu : P.underlying ty = some d) (hd : (match d with | .struct _ | .array _ _ => true | _ => false) = true) (hi : (P.info? ty).map (·.size) = some cs.size) :
    (results fn tmps).run P w = .ok (.agg cs) w := by
  have hp' : tmps[p]?.getD undef = .pointer (some ⟨g, 0, none⟩) := by simpa using hp
  simp [results, h, hp', asAddr, run_loadVar_row w g t ty cs (0, 0) d hg hu hd hi]
theorem cells_new2 (w : World) (o : Obj) (t : TypeId) (cs : Array Value) : CellsAt ((w.alloc o).alloc (.cells cs t)) (w.heap.size + 1) t cs := heap_alloc2_new _ _ _
theorem cells_set4 {w : World} {B : Nat} {t : TypeId} {a b c d : Value} (h : CellsAt w B t #[a, b, c, d]) (x y z u : Value) :
    CellsAt ((((w.setCell ⟨B, 0, none⟩ x).setCell ⟨B, 1, none⟩ y).setCell ⟨B, 2, none⟩ z).setCell ⟨B, 3, none⟩ u) B t #[x, y, z, u] :=
  cells_set (cells_set (cells_set (cells_set h 0 x) 1 y) 2 z) 3 u
theorem cells_far4 {w : World} {B C : Nat} {t : TypeId} {cs : Array Value} (h : CellsAt w B t cs) (hC : B ≠ C) (x y z u : Value) :
    CellsAt ((((w.setCell ⟨C, 0, none⟩ x).setCell ⟨C, 1, none⟩ y).setCell ⟨C, 2, none⟩ z).setCell ⟨C, 3, none⟩ u) B t cs :=
  cells_set_far (cells_set_far (cells_set_far (cells_set_far h hC 0 x) hC 1 y) hC 2 z) hC 3 u
theorem below_set4 {w a : World} {N B : Nat} (h : Below N w a) (hB : N ≤ B) (x y z u : Value) :
    Below N w ((((a.setCell ⟨B, 0, none⟩ x).setCell ⟨B, 1, none⟩ y).setCell ⟨B, 2, none⟩ z).setCell ⟨B, 3, none⟩ u) :=
  below_set (below_set (below_set (below_set h hB x) hB y) hB z) hB u
theorem dol_has (l : List UInt8) : Lib.hasPrefix l [36] = dolB l := by
  unfold Lib.hasPrefix dolB
  cases l with
  | nil => rfl
  | cons c l =>
    show ((36 == c) && true) = (some c == some 36)
    by_cases h : c = 36
    · subst h; rfl
    · rw [show ((36 : UInt8) == c) = false from beq_eq_false_iff_ne.2 (Ne.symm h), show (some c == some 36) = false from beq_eq_false_iff_ne.2 (by intro e; exact h (Option.some.inj e))]; rfl
theorem dol_trim (l : List UInt8) : Lib.trimPrefix l [36] = dolR l := by
  unfold Lib.trimPrefix dolR
  rw [dol_has]
  cases l <;> rfl
theorem cut36 (s : ByteArray) (l : List UInt8) (w : World) (hl : s.data.toList = l) :
    Calls Tryz.prog 177 #[.string s, .string ⟨#[36]⟩] w fun e w' => e = .returned (.tuple #[.string ⟨(dolR l).toArray⟩, .bool (dolB l)]) ∧ w' = w := by
  subst hl
  have h := Tryz.strings_CutPrefix s ⟨#[36]⟩ w
  rw [show (⟨#[36]⟩ : ByteArray).data.toList = [36] from rfl, dol_trim, dol_has] at h
  exact h
theorem dolR_len (l : List UInt8) : (dolR l).length ≤ l.length := by
  unfold dolR; split
  · rw [List.length_tail]; omega
  · omega
theorem rowV_fold : ∀ (l : List UInt8) (n : Nat), l.all isDg = true → Lib.decFrom n l = some (l.foldl (fun n c => n * 10 + (c.toNat - 48)) n)
  | [], n, _ => rfl
  | c :: l, n, h => by
    rw [List.all_cons, Bool.and_eq_true] at h
    have hd : Lib.digitVal c = some (c.toNat - 48) := by
      unfold Lib.digitVal
      have h1 := h.1
      unfold isDg at h1
      simp at h1
      rw [if_pos h1]
    rw [List.foldl_cons, ← rowV_fold l _ h.2]
    unfold Lib.decFrom
    rw [hd]
    cases l <;> rfl
theorem atoi_row (l : List UInt8) (h : l.all isDg = true) (h1 : 1 ≤ l.length) : Lib.atoi l = some (rowV l : Int) := by
  match l, h1 with
  | c :: l, _ =>
    have hc : isDg c = true := by rw [List.all_cons, Bool.and_eq_true] at h; exact h.1
    have e1 : (c == 45) = false := by rw [beq_eq_false_iff_ne]; intro e; subst e; exact absurd hc (by decide)
    have e2 : (c == 43) = false := by rw [beq_eq_false_iff_ne]; intro e; subst e; exact absurd hc (by decide)
    have e3 : Lib.decNat (c :: l) = some (rowV (c :: l)) := by
      unfold Lib.decNat
      rw [if_neg (by simp), rowV_fold _ _ h]; rfl
    show (if c == 45 then _ else if c == 43 then _ else (Lib.decNat (c :: l)).map fun (m : Nat) => (m : Int)) = _
    rw [e1, e2, e3]; rfl
theorem row_lt : ∀ (l : List UInt8) (n : Nat), l.all isDg = true → l.foldl (fun n c => n * 10 + (c.toNat - 48)) n < (n + 1) * 10 ^ l.length
  | [], n, _ => by simp
  | c :: l, n, h => by
    rw [List.all_cons, Bool.and_eq_true] at h
    have h1 := h.1
    unfold isDg at h1
    simp at h1
    have := row_lt l (n * 10 + (c.toNat - 48)) h.2
    rw [List.foldl_cons, List.length_cons, Nat.pow_succ]
    have h2 : (n * 10 + (c.toNat - 48) + 1) * 10 ^ l.length ≤ ((n + 1) * 10) * 10 ^ l.length := Nat.mul_le_mul_right _ (by omega)
    rw [Nat.mul_comm (10 ^ l.length) 10, ← Nat.mul_assoc]
    omega
theorem rowV_le (l : List UInt8) (h : l.all isDg = true) (h5 : l.length ≤ 5) : rowV l < 100000 := by
  have h1 := row_lt l 0 h
  have hp : 10 ^ l.length ≤ 10 ^ 5 := Nat.pow_le_pow_right (by omega) h5
  have e : (10 ^ 5 : Nat) = 100000 := by decide
  unfold rowV
  omega
theorem tw_all (p : UInt8 → Bool) (l : List UInt8) (h : l.dropWhile p = []) : l.takeWhile p = l ∧ l.all p = true := by
  have e := List.takeWhile_append_dropWhile (p := p) (l := l)
  rw [h, List.append_nil] at e
  refine ⟨e, ?_⟩
  rw [← e]
  exact List.all_takeWhile
theorem dw_not (p : UInt8 → Bool) (l : List UInt8) (h : l.all p = true) : l.dropWhile p = [] := by
  induction l with
  | nil => rfl
  | cons c l ih =>
    rw [List.all_cons, Bool.and_eq_true] at h
    rw [List.dropWhile_cons, if_pos h.1, ih h.2]
theorem toL_nil (s : ByteArray) (h : s.data.toList = []) : (s.toList == []) = true := by rw [ByteArray.toList_eq, h]; rfl
theorem toL_cons (s : ByteArray) (h : s.data.toList ≠ []) : (s.toList == []) = false := by
  rw [beq_eq_false_iff_ne, ByteArray.toList_eq]; exact h
def formV (l : List UInt8) : Rf := if ref1B l = true then ref1V l else zeroR

theorem head_at (s : ByteArray) (h : 0 < s.size) : s.data.toList.headD 0 = s[0] := by
  have hk : 0 < s.data.toList.length := h
  match hs : s.data.toList, hk with
  | c :: r, _ =>
    have e : s[0] = s.data.toList[0]'h := rfl
    rw [e]
    simp [hs]
theorem form_a (l : List UInt8) (h : (dolR (restL l)).dropWhile isDg ≠ []) : ref1B l = false := by
  have : (dolR (restL l)).all isDg = false := by
    rw [← Bool.not_eq_true]
    intro e
    exact h (dw_not _ _ e)
  unfold ref1B
  rw [this, Bool.and_false]
theorem form_b (l : List UInt8) (h : (dolR (restL l)).dropWhile isDg = []) : ref1B l = (decide (1 ≤ (letsL l).length) && decide ((letsL l).length ≤ 3) && decide (1 ≤ ((dolR (restL l)).takeWhile isDg).length) && decide (((dolR (restL l)).takeWhile isDg).length ≤ 5) && !(((dolR (restL l)).takeWhile isDg).headD 0 == 48)) := by
  obtain ⟨h1, h2⟩ := tw_all _ _ h
  unfold ref1B
  rw [h1, h2, Bool.and_true]
theorem form_g (l : List UInt8) (h : ref1B l = true) : (letsL l).all isLet = true ∧ colV (letsL l) = colV (letsL l) ∧ Lib.atoi ((dolR (restL l)).takeWhile isDg) = some (rowV (dolR (restL l)) : Int) ∧ rowV (dolR (restL l)) < 100000 := by
  unfold ref1B at h
  simp only [Bool.and_eq_true] at h
  obtain ⟨⟨⟨⟨⟨h1, h2⟩, h3⟩, h4⟩, h5⟩, h6⟩ := h
  have h3 := of_decide_eq_true h3
  have h4 := of_decide_eq_true h4
  obtain ⟨e1, _⟩ := tw_all isDg _ (dw_not _ _ h6)
  refine ⟨List.all_takeWhile, rfl, ?_, rowV_le _ h6 h4⟩
  rw [e1]
  exact atoi_row _ h6 h3

set_option maxRecDepth 100000 in
set_option maxHeartbeats 4000000 in
theorem formed_val (s : ByteArray) (w : World) (hs : s.size ≤ 140000000000000) :
    Calls Tryz.prog 217 #[.string s] w fun e w' => e = .returned (.tuple #[.agg (formV s.data.toList).cells, .bool (ref1B s.data.toList)]) ∧ Below w.heap.size w w' := by
  obtain ⟨l, hl⟩ : ∃ l, s.data.toList = l := ⟨_, rfl⟩
  have hsz : s.size = l.length := by rw [← hl]; rfl
  have hs' : l.length ≤ 140000000000000 := by omega
  rw [hl]
  clear hsz hs
  have hw36 := hide (fun w => cut36 s l w hl)
  have HL := hide (fun w => lead_letter ⟨(dolR l).toArray⟩ w (by unfold maxLen; show (dolR l).length ≤ _; have := dolR_len l; omega))
  have HC2 := hide (fun w => cut36 ⟨(restL l).toArray⟩ (restL l) w rfl)
  have hd : (dolR (restL l)).length ≤ l.length := by
    have h1 := dolR_len (restL l)
    have h2 := dolR_len l
    have h3 : (restL l).length ≤ (dolR l).length := by
      have e := congrArg List.length (List.takeWhile_append_dropWhile (p := isLet) (l := dolR l))
      rw [List.length_append] at e
      unfold restL
      omega
    omega
  have HD := hide (fun w => lead_digit ⟨(dolR (restL l)).toArray⟩ w (by unfold maxLen; show (dolR (restL l)).length ≤ _; omega))
  clear hl hs' hd
  have FV : Hid (ref1V l = ⟨(colV (letsL l) : Int) - 1, (rowV (dolR (restL l)) : Int) - 1, dolB l, dolB (restL l)⟩) := hide rfl
  have FA : Hid ((dolR (restL l)).dropWhile isDg ≠ [] → ref1B l = false) := hide (form_a l)
  have FB : Hid ((dolR (restL l)).dropWhile isDg = [] → ref1B l = (decide (1 ≤ (letsL l).length) && decide ((letsL l).length ≤ 3) && decide (1 ≤ ((dolR (restL l)).takeWhile isDg).length) && decide (((dolR (restL l)).takeWhile isDg).length ≤ 5) && !(((dolR (restL l)).takeWhile isDg).headD 0 == 48))) := hide (form_b l)
  have FG : Hid (ref1B l = true → (letsL l).all isLet = true ∧ colV (letsL l) = colV (letsL l) ∧ Lib.atoi ((dolR (restL l)).takeWhile isDg) = some (rowV (dolR (restL l)) : Int) ∧ rowV (dolR (restL l)) < 100000) := hide (form_g l)
  obtain ⟨C, hC⟩ : ∃ C : ByteArray, C = ⟨(letsL l).toArray⟩ := ⟨_, rfl⟩
  obtain ⟨R, hR⟩ : ∃ R : ByteArray, R = ⟨((dolR (restL l)).takeWhile isDg).toArray⟩ := ⟨_, rfl⟩
  obtain ⟨Q, hQ⟩ : ∃ Q : ByteArray, Q = ⟨((dolR (restL l)).dropWhile isDg).toArray⟩ := ⟨_, rfl⟩
  obtain ⟨A1, hA1⟩ : ∃ A : ByteArray, A = ⟨(dolR l).toArray⟩ := ⟨_, rfl⟩
  obtain ⟨A2, hA2⟩ : ∃ A : ByteArray, A = ⟨(restL l).toArray⟩ := ⟨_, rfl⟩
  obtain ⟨A3, hA3⟩ : ∃ A : ByteArray, A = ⟨(dolR (restL l)).toArray⟩ := ⟨_, rfl⟩
  have lC : letsL l = C.data.toList := by rw [hC]
  have lR : (dolR (restL l)).takeWhile isDg = R.data.toList := by rw [hR]
  have lQ : (dolR (restL l)).dropWhile isDg = Q.data.toList := by rw [hQ]
  replace hw36 : Hid (∀ w : World, Calls Tryz.prog 177 #[.string s, .string ⟨#[36]⟩] w fun e w' => e = .returned (.tuple #[.string A1, .bool (dolB l)]) ∧ w' = w) := by rw [hA1]; exact hw36
  replace HL : Hid (∀ w : World, Calls Tryz.prog 161 #[.string A1, .func (.func 199) #[] #[]] w fun e w' => e = .returned (.tuple #[.string C, .string A2]) ∧ Below w.heap.size w w') := by rw [hA1, hC, hA2]; exact HL
  replace HC2 : Hid (∀ w : World, Calls Tryz.prog 177 #[.string A2, .string ⟨#[36]⟩] w fun e w' => e = .returned (.tuple #[.string A3, .bool (dolB (restL l))]) ∧ w' = w) := by rw [hA2, hA3]; exact HC2
  replace HD : Hid (∀ w : World, Calls Tryz.prog 161 #[.string A3, .func (.func 160) #[] #[]] w fun e w' => e = .returned (.tuple #[.string R, .string Q]) ∧ Below w.heap.size w w') := by rw [hA3, hR, hQ]; exact HD
  clear hC hR hQ hA1 hA2 hA3
  rw [lQ] at FA FB
  rw [lC, lR] at FB FG
  rw [lC] at FV
  clear lC lR lQ
  rw [show C.data.toList.length = C.size from rfl, show R.data.toList.length = R.size from rfl] at FB
  generalize dolB l = fc at hw36 FV
  generalize dolB (restL l) = fr at HC2 FV
  generalize rowV (dolR (restL l)) = y at FV FG
  obtain ⟨x, hx⟩ : ∃ x, colV C.data.toList = x := ⟨_, rfl⟩
  replace FG : Hid (ref1B l = true → C.data.toList.all isLet = true ∧ colV C.data.toList = x ∧ Lib.atoi R.data.toList = some (y : Int) ∧ y < 100000) := hide (fun h => by have := unhide FG h; exact ⟨this.1, hx, this.2.2⟩)
  rw [hx] at FV
  clear hx
  by_cases kq : Q.data.toList = []
  · have e1 := toL_nil Q kq
    have FB := hide (unhide FB kq)
    clear kq
    by_cases kc : C.data.toList = []
    · have e2 := toL_nil C kc
      have HV : Hid (formV l = zeroR ∧ ref1B l = false) := hide (by have h : ref1B l = false := (by rw [unhide FB, show C.size = 0 by show C.data.toList.length = 0; rw [kc]; rfl]; rfl); exact ⟨by unfold formV; rw [h]; rfl, h⟩)
      rw [(unhide HV).1, (unhide HV).2]
      clear kc
      go_enter Tryz.func217, Tryz.ntmps217
      go_upto_region 2 with fail
      have P0 := hide (cells_al (cells_new w 50 #[.int .i64 0, .int .i64 0, .bool false, .bool false]) (.cells #[.int .i64 0, .int .i64 0, .bool false, .bool false] 50))
      have P1 := hide (cells_new2 w (.cells #[.int .i64 0, .int .i64 0, .bool false, .bool false] 50) 50 #[.int .i64 0, .int .i64 0, .bool false, .bool false])
      have HB := hide (below_al2 w (.cells #[.int .i64 0, .int .i64 0, .bool false, .bool false] 50) (.cells #[.int .i64 0, .int .i64 0, .bool false, .bool false] 50))
      generalize hW : (w.alloc (.cells #[.int .i64 0, .int .i64 0, .bool false, .bool false] 50)).alloc (.cells #[.int .i64 0, .int .i64 0, .bool false, .bool false] 50) = W0 at P0 P1 HB ⊢
      clear hW
      go_wp2_with fail
      refine (unhide hw36 _).mono ?_
      rintro e w1 ⟨rfl, rfl⟩
      obtain ⟨y0, y1, y2, y3⟩ := cells4 (unhide P1)
      have g2 := cells_f (unhide P1) 2
      go_wp2_with fail
      refine (unhide HL _).mono ?_
      rintro e w2 ⟨rfl, b2⟩
      replace P0 := hide (cells_nx (cells_set_far (unhide P0) (by omega) 2 (.bool fc)) b2)
      replace P1 := hide (cells_nx (cells_set (unhide P1) 2 (.bool fc)) b2)
      replace HB := hide (below_nx (below_set (unhide HB) (by omega) (.bool fc)) b2)
      clear b2
      clear y0 y1 y2 y3 g2
      go_wp2_with fail
      refine (unhide HC2 _).mono ?_
      rintro e w3 ⟨rfl, rfl⟩
      obtain ⟨y0, y1, y2, y3⟩ := cells4 (unhide P1)
      have g3 := cells_f (unhide P1) 3
      go_wp2_with fail
      refine (unhide HD _).mono ?_
      rintro e w4 ⟨rfl, b4⟩
      replace P0 := hide (cells_nx (cells_set_far (unhide P0) (by omega) 3 (.bool fr)) b4)
      replace P1 := hide (cells_nx (cells_set (unhide P1) 3 (.bool fr)) b4)
      replace HB := hide (below_nx (below_set (unhide HB) (by omega) (.bool fr)) b4)
      clear b4
      clear y0 y1 y2 y3 g3
      obtain ⟨x0, x1, x2, x3⟩ := cells4 (unhide P0)
      have h0 := cells_f (unhide P0) 0
      have h1 := cells_f (unhide P0) 1
      have h2 := cells_f (unhide P0) 2
      have h3 := cells_f (unhide P0) 3
      go_wp2
      refine bodyPost_ret (results_c1t rfl _ _ _ _ _ _ rfl (cells_set4 (unhide P0) _ _ _ _) Tryz.underlying50 rfl (by exact infoR) _ rfl) rfl ?_
      exact ⟨rfl, below_set4 (unhide HB) (Nat.le_refl _) _ _ _ _⟩
    · have e2 := toL_cons C kc
      have kc1 : 1 ≤ C.size := by rcases Nat.eq_zero_or_pos C.size with h | h; exact absurd (List.eq_nil_of_length_eq_zero h) kc; exact h
      clear kc
      by_cases k3 : C.size ≤ 3
      · have k3i : (C.size : Int) ≤ 3 := by omega
        by_cases kr : R.data.toList = []
        · have e3 := toL_nil R kr
          have HV : Hid (formV l = zeroR ∧ ref1B l = false) := hide (by have h : ref1B l = false := (by rw [unhide FB, show R.size = 0 by show R.data.toList.length = 0; rw [kr]; rfl]; simp); exact ⟨by unfold formV; rw [h]; rfl, h⟩)
          rw [(unhide HV).1, (unhide HV).2]
          clear kr
          go_enter Tryz.func217, Tryz.ntmps217
          go_upto_region 2 with fail
          have P0 := hide (cells_al (cells_new w 50 #[.int .i64 0, .int .i64 0, .bool false, .bool false]) (.cells #[.int .i64 0, .int .i64 0, .bool false, .bool false] 50))
          have P1 := hide (cells_new2 w (.cells #[.int .i64 0, .int .i64 0, .bool false, .bool false] 50) 50 #[.int .i64 0, .int .i64 0, .bool false, .bool false])
          have HB := hide (below_al2 w (.cells #[.int .i64 0, .int .i64 0, .bool false, .bool false] 50) (.cells #[.int .i64 0, .int .i64 0, .bool false, .bool false] 50))
          generalize hW : (w.alloc (.cells #[.int .i64 0, .int .i64 0, .bool false, .bool false] 50)).alloc (.cells #[.int .i64 0, .int .i64 0, .bool false, .bool false] 50) = W0 at P0 P1 HB ⊢
          clear hW
          go_wp2_with fail
          refine (unhide hw36 _).mono ?_
          rintro e w1 ⟨rfl, rfl⟩
          obtain ⟨y0, y1, y2, y3⟩ := cells4 (unhide P1)
          have g2 := cells_f (unhide P1) 2
          go_wp2_with fail
          refine (unhide HL _).mono ?_
          rintro e w2 ⟨rfl, b2⟩
          replace P0 := hide (cells_nx (cells_set_far (unhide P0) (by omega) 2 (.bool fc)) b2)
          replace P1 := hide (cells_nx (cells_set (unhide P1) 2 (.bool fc)) b2)
          replace HB := hide (below_nx (below_set (unhide HB) (by omega) (.bool fc)) b2)
          clear b2
          clear y0 y1 y2 y3 g2
          go_wp2_with fail
          refine (unhide HC2 _).mono ?_
          rintro e w3 ⟨rfl, rfl⟩
          obtain ⟨y0, y1, y2, y3⟩ := cells4 (unhide P1)
          have g3 := cells_f (unhide P1) 3
          go_wp2_with fail
          refine (unhide HD _).mono ?_
          rintro e w4 ⟨rfl, b4⟩
          replace P0 := hide (cells_nx (cells_set_far (unhide P0) (by omega) 3 (.bool fr)) b4)
          replace P1 := hide (cells_nx (cells_set (unhide P1) 3 (.bool fr)) b4)
          replace HB := hide (below_nx (below_set (unhide HB) (by omega) (.bool fr)) b4)
          clear b4
          clear y0 y1 y2 y3 g3
          obtain ⟨x0, x1, x2, x3⟩ := cells4 (unhide P0)
          have h0 := cells_f (unhide P0) 0
          have h1 := cells_f (unhide P0) 1
          have h2 := cells_f (unhide P0) 2
          have h3 := cells_f (unhide P0) 3
          go_wp2
          refine bodyPost_ret (results_c1t rfl _ _ _ _ _ _ rfl (cells_set4 (unhide P0) _ _ _ _) Tryz.underlying50 rfl (by exact infoR) _ rfl) rfl ?_
          exact ⟨rfl, below_set4 (unhide HB) (Nat.le_refl _) _ _ _ _⟩
        · have e3 := toL_cons R kr
          have kr1 : 1 ≤ R.size := by rcases Nat.eq_zero_or_pos R.size with h | h; exact absurd (List.eq_nil_of_length_eq_zero h) kr; exact h
          clear kr
          by_cases k5 : R.size ≤ 5
          · have k5i : (R.size : Int) ≤ 5 := by omega
            have kr0 : 0 < R.size := by omega
            rw [head_at R kr0] at FB
            have kri : (0 : Int) < (R.size : Int) := by omega
            cases k8 : ((R[0].toNat : Int) == 48)
            · have k8u : (R[0] == 48) = false := by
                rw [beq_eq_false_iff_ne] at k8 ⊢
                intro h
                rw [h] at k8
                exact k8 rfl
              have hr : ref1B l = true := by rw [unhide FB, k8u, decide_eq_true kc1, decide_eq_true k3, decide_eq_true kr1, decide_eq_true k5]; rfl
              obtain ⟨v1, v2, v3, v4⟩ := unhide FG hr
              have HV : Hid (formV l = ⟨(x : Int) - 1, (y : Int) - 1, fc, fr⟩ ∧ ref1B l = true) := hide ⟨by unfold formV; rw [hr]; exact unhide FV, hr⟩
              have HK : Hid (∀ w : World, Calls Tryz.prog 241 #[.string C] w fun e w' => e = .returned (.int .i64 ((x : Int) - 1)) ∧ Below w.heap.size w w') := hide (fun w => by have h := column_val C w k3 v1; rw [v2] at h; exact h)
              have HA : Hid (∀ w : World, Calls Tryz.prog 240 #[.string R] w fun e w' => e = .returned (.tuple #[.int .i64 (y : Int), .nilIface]) ∧ ∃ t, w' = Lib.bytesWorld w 5 t) := hide (fun w => Tryz.strconv_Atoi R (y : Int) (by omega) v3 w)
              rw [(unhide HV).1, (unhide HV).2]
              clear v1 v2 v3 hr k8u
              go_enter Tryz.func217, Tryz.ntmps217
              go_upto_region 2 with fail
              have P0 := hide (cells_al (cells_new w 50 #[.int .i64 0, .int .i64 0, .bool false, .bool false]) (.cells #[.int .i64 0, .int .i64 0, .bool false, .bool false] 50))
              have P1 := hide (cells_new2 w (.cells #[.int .i64 0, .int .i64 0, .bool false, .bool false] 50) 50 #[.int .i64 0, .int .i64 0, .bool false, .bool false])
              have HB := hide (below_al2 w (.cells #[.int .i64 0, .int .i64 0, .bool false, .bool false] 50) (.cells #[.int .i64 0, .int .i64 0, .bool false, .bool false] 50))
              generalize hW : (w.alloc (.cells #[.int .i64 0, .int .i64 0, .bool false, .bool false] 50)).alloc (.cells #[.int .i64 0, .int .i64 0, .bool false, .bool false] 50) = W0 at P0 P1 HB ⊢
              clear hW
              go_wp2_with fail
              refine (unhide hw36 _).mono ?_
              rintro e w1 ⟨rfl, rfl⟩
              obtain ⟨y0, y1, y2, y3⟩ := cells4 (unhide P1)
              have g2 := cells_f (unhide P1) 2
              go_wp2_with fail
              refine (unhide HL _).mono ?_
              rintro e w2 ⟨rfl, b2⟩
              replace P0 := hide (cells_nx (cells_set_far (unhide P0) (by omega) 2 (.bool fc)) b2)
              replace P1 := hide (cells_nx (cells_set (unhide P1) 2 (.bool fc)) b2)
              replace HB := hide (below_nx (below_set (unhide HB) (by omega) (.bool fc)) b2)
              clear b2
              clear y0 y1 y2 y3 g2
              go_wp2_with fail
              refine (unhide HC2 _).mono ?_
              rintro e w3 ⟨rfl, rfl⟩
              obtain ⟨y0, y1, y2, y3⟩ := cells4 (unhide P1)
              have g3 := cells_f (unhide P1) 3
              go_wp2_with fail
              refine (unhide HD _).mono ?_
              rintro e w4 ⟨rfl, b4⟩
              replace P0 := hide (cells_nx (cells_set_far (unhide P0) (by omega) 3 (.bool fr)) b4)
              replace P1 := hide (cells_nx (cells_set (unhide P1) 3 (.bool fr)) b4)
              replace HB := hide (below_nx (below_set (unhide HB) (by omega) (.bool fr)) b4)
              clear b4
              clear y0 y1 y2 y3 g3
              go_wp2_with fail
              refine (unhide HA _).mono ?_
              rintro e w5 ⟨rfl, t5, rfl⟩
              have b5 := Lib.bytesWorld_below w4 5 t5
              generalize Lib.bytesWorld w4 5 t5 = w5 at b5 ⊢
              replace P0 := hide (cells_nx (unhide P0) b5)
              replace P1 := hide (cells_nx (unhide P1) b5)
              replace HB := hide (below_nx (unhide HB) b5)
              clear b5
              go_wp2_with fail
              refine (unhide HK _).mono ?_
              rintro e w6 ⟨rfl, b6⟩
              replace P0 := hide (cells_nx (unhide P0) b6)
              replace P1 := hide (cells_nx (unhide P1) b6)
              replace HB := hide (below_nx (unhide HB) b6)
              clear b6
              obtain ⟨y0, y1, y2, y3⟩ := cells4 (unhide P1)
              have g0 := cells_f (unhide P1) 0
              have g1 := cells_f (unhide P1) 1
              obtain ⟨x0, x1, x2, x3⟩ := cells4 (unhide P0)
              have h0 := cells_f (unhide P0) 0
              have h1 := cells_f (unhide P0) 1
              have h2 := cells_f (unhide P0) 2
              have h3 := cells_f (unhide P0) 3
              have hne : w.heap.size ≠ w.heap.size + 1 := by omega
              go_wp2
              refine bodyPost_ret (results_c1t rfl _ _ _ _ _ _ rfl (cells_set4 (cells_set_far (cells_set_far (unhide P0) (by omega) 0 _) (by omega) 1 _) _ _ _ _) Tryz.underlying50 rfl (by exact infoR) _ rfl) rfl ?_
              exact ⟨rfl, below_set4 (below_set (below_set (unhide HB) (by omega) _) (by omega) _) (Nat.le_refl _) _ _ _ _⟩
            · have k8u : (R[0] == 48) = true := by rw [beq_iff_eq] at k8 ⊢; exact UInt8.toNat_inj.1 (show R[0].toNat = 48 by omega)
              have HV : Hid (formV l = zeroR ∧ ref1B l = false) := hide (by have h : ref1B l = false := (by rw [unhide FB, k8u]; simp); exact ⟨by unfold formV; rw [h]; rfl, h⟩)
              rw [(unhide HV).1, (unhide HV).2]
              clear k8u
              go_enter Tryz.func217, Tryz.ntmps217
              go_upto_region 2 with fail
              have P0 := hide (cells_al (cells_new w 50 #[.int .i64 0, .int .i64 0, .bool false, .bool false]) (.cells #[.int .i64 0, .int .i64 0, .bool false, .bool false] 50))
              have P1 := hide (cells_new2 w (.cells #[.int .i64 0, .int .i64 0, .bool false, .bool false] 50) 50 #[.int .i64 0, .int .i64 0, .bool false, .bool false])
              have HB := hide (below_al2 w (.cells #[.int .i64 0, .int .i64 0, .bool false, .bool false] 50) (.cells #[.int .i64 0, .int .i64 0, .bool false, .bool false] 50))
              generalize hW : (w.alloc (.cells #[.int .i64 0, .int .i64 0, .bool false, .bool false] 50)).alloc (.cells #[.int .i64 0, .int .i64 0, .bool false, .bool false] 50) = W0 at P0 P1 HB ⊢
              clear hW
              go_wp2_with fail
              refine (unhide hw36 _).mono ?_
              rintro e w1 ⟨rfl, rfl⟩
              obtain ⟨y0, y1, y2, y3⟩ := cells4 (unhide P1)
              have g2 := cells_f (unhide P1) 2
              go_wp2_with fail
              refine (unhide HL _).mono ?_
              rintro e w2 ⟨rfl, b2⟩
              replace P0 := hide (cells_nx (cells_set_far (unhide P0) (by omega) 2 (.bool fc)) b2)
              replace P1 := hide (cells_nx (cells_set (unhide P1) 2 (.bool fc)) b2)
              replace HB := hide (below_nx (below_set (unhide HB) (by omega) (.bool fc)) b2)
              clear b2
              clear y0 y1 y2 y3 g2
              go_wp2_with fail
              refine (unhide HC2 _).mono ?_
              rintro e w3 ⟨rfl, rfl⟩
              obtain ⟨y0, y1, y2, y3⟩ := cells4 (unhide P1)
              have g3 := cells_f (unhide P1) 3
              go_wp2_with fail
              refine (unhide HD _).mono ?_
              rintro e w4 ⟨rfl, b4⟩
              replace P0 := hide (cells_nx (cells_set_far (unhide P0) (by omega) 3 (.bool fr)) b4)
              replace P1 := hide (cells_nx (cells_set (unhide P1) 3 (.bool fr)) b4)
              replace HB := hide (below_nx (below_set (unhide HB) (by omega) (.bool fr)) b4)
              clear b4
              clear y0 y1 y2 y3 g3
              obtain ⟨x0, x1, x2, x3⟩ := cells4 (unhide P0)
              have h0 := cells_f (unhide P0) 0
              have h1 := cells_f (unhide P0) 1
              have h2 := cells_f (unhide P0) 2
              have h3 := cells_f (unhide P0) 3
              go_wp2
              refine bodyPost_ret (results_c1t rfl _ _ _ _ _ _ rfl (cells_set4 (unhide P0) _ _ _ _) Tryz.underlying50 rfl (by exact infoR) _ rfl) rfl ?_
              exact ⟨rfl, below_set4 (unhide HB) (Nat.le_refl _) _ _ _ _⟩
          · have k5i : 5 < (R.size : Int) := by omega
            have HV : Hid (formV l = zeroR ∧ ref1B l = false) := hide (by have h : ref1B l = false := (by rw [unhide FB, decide_eq_false k5]; simp); exact ⟨by unfold formV; rw [h]; rfl, h⟩)
            rw [(unhide HV).1, (unhide HV).2]
            clear k5
            go_enter Tryz.func217, Tryz.ntmps217
            go_upto_region 2 with fail
            have P0 := hide (cells_al (cells_new w 50 #[.int .i64 0, .int .i64 0, .bool false, .bool false]) (.cells #[.int .i64 0, .int .i64 0, .bool false, .bool false] 50))
            have P1 := hide (cells_new2 w (.cells #[.int .i64 0, .int .i64 0, .bool false, .bool false] 50) 50 #[.int .i64 0, .int .i64 0, .bool false, .bool false])
            have HB := hide (below_al2 w (.cells #[.int .i64 0, .int .i64 0, .bool false, .bool false] 50) (.cells #[.int .i64 0, .int .i64 0, .bool false, .bool false] 50))
            generalize hW : (w.alloc (.cells #[.int .i64 0, .int .i64 0, .bool false, .bool false] 50)).alloc (.cells #[.int .i64 0, .int .i64 0, .bool false, .bool false] 50) = W0 at P0 P1 HB ⊢
            clear hW
            go_wp2_with fail
            refine (unhide hw36 _).mono ?_
            rintro e w1 ⟨rfl, rfl⟩
            obtain ⟨y0, y1, y2, y3⟩ := cells4 (unhide P1)
            have g2 := cells_f (unhide P1) 2
            go_wp2_with fail
            refine (unhide HL _).mono ?_
            rintro e w2 ⟨rfl, b2⟩
            replace P0 := hide (cells_nx (cells_set_far (unhide P0) (by omega) 2 (.bool fc)) b2)
            replace P1 := hide (cells_nx (cells_set (unhide P1) 2 (.bool fc)) b2)
            replace HB := hide (below_nx (below_set (unhide HB) (by omega) (.bool fc)) b2)
            clear b2
            clear y0 y1 y2 y3 g2
            go_wp2_with fail
            refine (unhide HC2 _).mono ?_
            rintro e w3 ⟨rfl, rfl⟩
            obtain ⟨y0, y1, y2, y3⟩ := cells4 (unhide P1)
            have g3 := cells_f (unhide P1) 3
            go_wp2_with fail
            refine (unhide HD _).mono ?_
            rintro e w4 ⟨rfl, b4⟩
            replace P0 := hide (cells_nx (cells_set_far (unhide P0) (by omega) 3 (.bool fr)) b4)
            replace P1 := hide (cells_nx (cells_set (unhide P1) 3 (.bool fr)) b4)
            replace HB := hide (below_nx (below_set (unhide HB) (by omega) (.bool fr)) b4)
            clear b4
            clear y0 y1 y2 y3 g3
            obtain ⟨x0, x1, x2, x3⟩ := cells4 (unhide P0)
            have h0 := cells_f (unhide P0) 0
            have h1 := cells_f (unhide P0) 1
            have h2 := cells_f (unhide P0) 2
            have h3 := cells_f (unhide P0) 3
            go_wp2
            refine bodyPost_ret (results_c1t rfl _ _ _ _ _ _ rfl (cells_set4 (unhide P0) _ _ _ _) Tryz.underlying50 rfl (by exact infoR) _ rfl) rfl ?_
            exact ⟨rfl, below_set4 (unhide HB) (Nat.le_refl _) _ _ _ _⟩
      · have k3i : 3 < (C.size : Int) := by omega
        have HV : Hid (formV l = zeroR ∧ ref1B l = false) := hide (by have h : ref1B l = false := (by rw [unhide FB, decide_eq_false k3]; simp); exact ⟨by unfold formV; rw [h]; rfl, h⟩)
        rw [(unhide HV).1, (unhide HV).2]
        clear k3
        go_enter Tryz.func217, Tryz.ntmps217
        go_upto_region 2 with fail
        have P0 := hide (cells_al (cells_new w 50 #[.int .i64 0, .int .i64 0, .bool false, .bool false]) (.cells #[.int .i64 0, .int .i64 0, .bool false, .bool false] 50))
        have P1 := hide (cells_new2 w (.cells #[.int .i64 0, .int .i64 0, .bool false, .bool false] 50) 50 #[.int .i64 0, .int .i64 0, .bool false, .bool false])
        have HB := hide (below_al2 w (.cells #[.int .i64 0, .int .i64 0, .bool false, .bool false] 50) (.cells #[.int .i64 0, .int .i64 0, .bool false, .bool false] 50))
        generalize hW : (w.alloc (.cells #[.int .i64 0, .int .i64 0, .bool false, .bool false] 50)).alloc (.cells #[.int .i64 0, .int .i64 0, .bool false, .bool false] 50) = W0 at P0 P1 HB ⊢
        clear hW
        go_wp2_with fail
        refine (unhide hw36 _).mono ?_
        rintro e w1 ⟨rfl, rfl⟩
        obtain ⟨y0, y1, y2, y3⟩ := cells4 (unhide P1)
        have g2 := cells_f (unhide P1) 2
        go_wp2_with fail
        refine (unhide HL _).mono ?_
        rintro e w2 ⟨rfl, b2⟩
        replace P0 := hide (cells_nx (cells_set_far (unhide P0) (by omega) 2 (.bool fc)) b2)
        replace P1 := hide (cells_nx (cells_set (unhide P1) 2 (.bool fc)) b2)
        replace HB := hide (below_nx (below_set (unhide HB) (by omega) (.bool fc)) b2)
        clear b2
        clear y0 y1 y2 y3 g2
        go_wp2_with fail
        refine (unhide HC2 _).mono ?_
        rintro e w3 ⟨rfl, rfl⟩
        obtain ⟨y0, y1, y2, y3⟩ := cells4 (unhide P1)
        have g3 := cells_f (unhide P1) 3
        go_wp2_with fail
        refine (unhide HD _).mono ?_
        rintro e w4 ⟨rfl, b4⟩
        replace P0 := hide (cells_nx (cells_set_far (unhide P0) (by omega) 3 (.bool fr)) b4)
        replace P1 := hide (cells_nx (cells_set (unhide P1) 3 (.bool fr)) b4)
        replace HB := hide (below_nx (below_set (unhide HB) (by omega) (.bool fr)) b4)
        clear b4
        clear y0 y1 y2 y3 g3
        obtain ⟨x0, x1, x2, x3⟩ := cells4 (unhide P0)
        have h0 := cells_f (unhide P0) 0
        have h1 := cells_f (unhide P0) 1
        have h2 := cells_f (unhide P0) 2
        have h3 := cells_f (unhide P0) 3
        go_wp2
        refine bodyPost_ret (results_c1t rfl _ _ _ _ _ _ rfl (cells_set4 (unhide P0) _ _ _ _) Tryz.underlying50 rfl (by exact infoR) _ rfl) rfl ?_
        exact ⟨rfl, below_set4 (unhide HB) (Nat.le_refl _) _ _ _ _⟩
  · have e1 := toL_cons Q kq
    have HV : Hid (formV l = zeroR ∧ ref1B l = false) := hide (by have h : ref1B l = false := (by rw [unhide FA kq]); exact ⟨by unfold formV; rw [h]; rfl, h⟩)
    rw [(unhide HV).1, (unhide HV).2]
    clear kq
    go_enter Tryz.func217, Tryz.ntmps217
    go_upto_region 2 with fail
    have P0 := hide (cells_al (cells_new w 50 #[.int .i64 0, .int .i64 0, .bool false, .bool false]) (.cells #[.int .i64 0, .int .i64 0, .bool false, .bool false] 50))
    have P1 := hide (cells_new2 w (.cells #[.int .i64 0, .int .i64 0, .bool false, .bool false] 50) 50 #[.int .i64 0, .int .i64 0, .bool false, .bool false])
    have HB := hide (below_al2 w (.cells #[.int .i64 0, .int .i64 0, .bool false, .bool false] 50) (.cells #[.int .i64 0, .int .i64 0, .bool false, .bool false] 50))
    generalize hW : (w.alloc (.cells #[.int .i64 0, .int .i64 0, .bool false, .bool false] 50)).alloc (.cells #[.int .i64 0, .int .i64 0, .bool false, .bool false] 50) = W0 at P0 P1 HB ⊢
    clear hW
    go_wp2_with fail
    refine (unhide hw36 _).mono ?_
    rintro e w1 ⟨rfl, rfl⟩
    obtain ⟨y0, y1, y2, y3⟩ := cells4 (unhide P1)
    have g2 := cells_f (unhide P1) 2
    go_wp2_with fail
    refine (unhide HL _).mono ?_
    rintro e w2 ⟨rfl, b2⟩
    replace P0 := hide (cells_nx (cells_set_far (unhide P0) (by omega) 2 (.bool fc)) b2)
    replace P1 := hide (cells_nx (cells_set (unhide P1) 2 (.bool fc)) b2)
    replace HB := hide (below_nx (below_set (unhide HB) (by omega) (.bool fc)) b2)
    clear b2
    clear y0 y1 y2 y3 g2
    go_wp2_with fail
    refine (unhide HC2 _).mono ?_
    rintro e w3 ⟨rfl, rfl⟩
    obtain ⟨y0, y1, y2, y3⟩ := cells4 (unhide P1)
    have g3 := cells_f (unhide P1) 3
    go_wp2_with fail
    refine (unhide HD _).mono ?_
    rintro e w4 ⟨rfl, b4⟩
    replace P0 := hide (cells_nx (cells_set_far (unhide P0) (by omega) 3 (.bool fr)) b4)
    replace P1 := hide (cells_nx (cells_set (unhide P1) 3 (.bool fr)) b4)
    replace HB := hide (below_nx (below_set (unhide HB) (by omega) (.bool fr)) b4)
    clear b4
    clear y0 y1 y2 y3 g3
    obtain ⟨x0, x1, x2, x3⟩ := cells4 (unhide P0)
    have h0 := cells_f (unhide P0) 0
    have h1 := cells_f (unhide P0) 1
    have h2 := cells_f (unhide P0) 2
    have h3 := cells_f (unhide P0) 3
    go_wp2
    refine bodyPost_ret (results_c1t rfl _ _ _ _ _ _ rfl (cells_set4 (unhide P0) _ _ _ _) Tryz.underlying50 rfl (by exact infoR) _ rfl) rfl ?_
    exact ⟨rfl, below_set4 (unhide HB) (Nat.le_refl _) _ _ _ _⟩

end Go.Proofs.YtloamahbghjjgaaGreatDoor

namespace Go.Proofs.YtloamahbghjjgaaGreatDoor
open Go.RowKit

end Go.Proofs.YtloamahbghjjgaaGreatDoor

namespace Go.Proofs.YtloamahbghjjgaaGreatDoor
open Go.RowKit

theorem infoA : (Tryz.prog.info? 154).map (·.size) = some 4 := by kernel_rfl
theorem cells_new3 (w : World) (o p : Obj) (t : TypeId) (cs : Array Value) : CellsAt (((w.alloc o).alloc p).alloc (.cells cs t)) (w.heap.size + 2) t cs := by
  unfold CellsAt
  show (((w.heap.push o).push p).push _)[w.heap.size + 2]? = _
  rw [Array.getElem?_push, if_pos (by simp)]
theorem below_al3 (w : World) (o p q : Obj) : Below w.heap.size w (((w.alloc o).alloc p).alloc q) := (below_al2 w o p).alloc (by simp; omega) _
theorem prod_le (x y : Int) (h0 : 0 ≤ x) (h1 : x ≤ 64) (h2 : 0 ≤ y) (h3 : y ≤ 1024) : 0 ≤ x * y ∧ x * y ≤ 65536 :=
  ⟨Int.mul_nonneg h0 h2, by have := Int.mul_le_mul h1 h3 h2 (by omega); omega⟩
set_option maxRecDepth 100000 in
set_option maxHeartbeats 2000000 in
theorem count_val (a b c d : Int) (w : World) (h1 : cellG a b = true) (h2 : cellG c d = true) (h3 : a ≤ c) (h4 : b ≤ d) :
    Calls Tryz.prog 163 #[.agg #[.int .i64 a, .int .i64 b, .int .i64 c, .int .i64 d]] w fun e w' => e = .returned (.int .i64 (areaC a b c d)) ∧ Below w.heap.size w w' := by
  rw [cellG_iff] at h1 h2
  obtain ⟨a1, a2, a3, a4⟩ := h1
  obtain ⟨c1, c2, c3, c4⟩ := h2
  obtain ⟨q1, q2⟩ := prod_le (c - a + 1) (d - b + 1) (by omega) (by omega) (by omega) (by omega)
  unfold areaC
  go_enter Tryz.func163, Tryz.ntmps163
  go_wp2
  go_ret
  exact ⟨rfl, below_al _ _⟩

set_option maxRecDepth 100000 in
set_option maxHeartbeats 2000000 in
theorem areaGood_val (a b c d : Int) (w : World) :
    Calls Tryz.prog 112 #[.agg #[.int .i64 a, .int .i64 b, .int .i64 c, .int .i64 d]] w fun e w' => e = .returned (.bool (areaG a b c d)) ∧ Below w.heap.size w w' := by
  have H1 := hide (fun w => cellGood_val a b w)
  have H2 := hide (fun w => cellGood_val c d w)
  cases g1 : cellG a b
  · rw [g1] at H1
    have E : areaG a b c d = false := by rw [← Bool.not_eq_true, areaG_iff]; rw [g1]; simp
    rw [E]
    clear E
    clear g1
    go_enter Tryz.func112, Tryz.ntmps112
    go_upto_region 1 with fail
    have P := hide (cells_new w 154 #[.int .i64 a, .int .i64 b, .int .i64 c, .int .i64 d])
    have HB : Hid (Below w.heap.size w (w.alloc (.cells #[.int .i64 a, .int .i64 b, .int .i64 c, .int .i64 d] 154))) := hide (below_al _ _)
    generalize hW : w.alloc (.cells #[.int .i64 a, .int .i64 b, .int .i64 c, .int .i64 d] 154) = W0 at P HB ⊢
    clear hW
    obtain ⟨p_0, p_1, p_2, p_3⟩ := cells4 (unhide P)
    go_wp2_with fail
    refine (unhide H1 _).mono ?_
    rintro e wk1 ⟨rfl, bk1⟩
    replace P := hide (cells_nx (unhide P) bk1)
    replace HB := hide (below_nx (unhide HB) bk1)
    clear bk1
    clear p_0 p_1 p_2 p_3
    go_wp2
    go_ret
    exact ⟨rfl, unhide HB⟩
  · rw [g1] at H1
    cases g2 : cellG c d
    · rw [g2] at H2
      have E : areaG a b c d = false := by rw [← Bool.not_eq_true, areaG_iff]; rw [g2]; simp
      rw [E]
      clear E
      clear g1 g2
      go_enter Tryz.func112, Tryz.ntmps112
      go_upto_region 1 with fail
      have P := hide (cells_new w 154 #[.int .i64 a, .int .i64 b, .int .i64 c, .int .i64 d])
      have HB : Hid (Below w.heap.size w (w.alloc (.cells #[.int .i64 a, .int .i64 b, .int .i64 c, .int .i64 d] 154))) := hide (below_al _ _)
      generalize hW : w.alloc (.cells #[.int .i64 a, .int .i64 b, .int .i64 c, .int .i64 d] 154) = W0 at P HB ⊢
      clear hW
      obtain ⟨p_0, p_1, p_2, p_3⟩ := cells4 (unhide P)
      go_wp2_with fail
      refine (unhide H1 _).mono ?_
      rintro e wk1 ⟨rfl, bk1⟩
      replace P := hide (cells_nx (unhide P) bk1)
      replace HB := hide (below_nx (unhide HB) bk1)
      clear bk1
      clear p_0 p_1 p_2 p_3
      obtain ⟨p_0, p_1, p_2, p_3⟩ := cells4 (unhide P)
      go_wp2_with fail
      refine (unhide H2 _).mono ?_
      rintro e wk2 ⟨rfl, bk2⟩
      replace P := hide (cells_nx (unhide P) bk2)
      replace HB := hide (below_nx (unhide HB) bk2)
      clear bk2
      clear p_0 p_1 p_2 p_3
      go_wp2
      go_ret
      exact ⟨rfl, unhide HB⟩
    · rw [g2] at H2
      by_cases h3 : a ≤ c
      · by_cases h4 : b ≤ d
        · have HC := hide (fun w => count_val a b c d w g1 g2 h3 h4)
          have E : areaG a b c d = decide (areaC a b c d ≤ 4096) := by unfold areaG; rw [g1, g2, decide_eq_true h3, decide_eq_true h4]; rfl
          rw [E]
          clear E g1 g2
          generalize areaC a b c d = n at HC ⊢
          go_enter Tryz.func112, Tryz.ntmps112
          go_upto_region 1 with fail
          have P := hide (cells_new w 154 #[.int .i64 a, .int .i64 b, .int .i64 c, .int .i64 d])
          have HB : Hid (Below w.heap.size w (w.alloc (.cells #[.int .i64 a, .int .i64 b, .int .i64 c, .int .i64 d] 154))) := hide (below_al _ _)
          generalize hW : w.alloc (.cells #[.int .i64 a, .int .i64 b, .int .i64 c, .int .i64 d] 154) = W0 at P HB ⊢
          clear hW
          obtain ⟨p_0, p_1, p_2, p_3⟩ := cells4 (unhide P)
          go_wp2_with fail
          refine (unhide H1 _).mono ?_
          rintro e wk1 ⟨rfl, bk1⟩
          replace P := hide (cells_nx (unhide P) bk1)
          replace HB := hide (below_nx (unhide HB) bk1)
          clear bk1
          clear p_0 p_1 p_2 p_3
          obtain ⟨p_0, p_1, p_2, p_3⟩ := cells4 (unhide P)
          go_wp2_with fail
          refine (unhide H2 _).mono ?_
          rintro e wk2 ⟨rfl, bk2⟩
          replace P := hide (cells_nx (unhide P) bk2)
          replace HB := hide (below_nx (unhide HB) bk2)
          clear bk2
          clear p_0 p_1 p_2 p_3
          obtain ⟨p_0, p_1, p_2, p_3⟩ := cells4 (unhide P)
          go_wp2_with fail
          refine (unhide HC _).mono ?_
          rintro e wk3 ⟨rfl, bk3⟩
          replace P := hide (cells_nx (unhide P) bk3)
          replace HB := hide (below_nx (unhide HB) bk3)
          clear bk3
          clear p_0 p_1 p_2 p_3
          go_wp2
          go_ret
          exact ⟨rfl, unhide HB⟩
        · have d4 : decide (d < b) = true := decide_eq_true (by omega)
          have d3 : decide (c < a) = false := decide_eq_false (by omega)
          have E : areaG a b c d = false := by rw [← Bool.not_eq_true, areaG_iff]; omega
          rw [E]
          clear E
          clear g1 g2
          replace h4 : d < b := by omega
          go_enter Tryz.func112, Tryz.ntmps112
          go_upto_region 1 with fail
          have P := hide (cells_new w 154 #[.int .i64 a, .int .i64 b, .int .i64 c, .int .i64 d])
          have HB : Hid (Below w.heap.size w (w.alloc (.cells #[.int .i64 a, .int .i64 b, .int .i64 c, .int .i64 d] 154))) := hide (below_al _ _)
          generalize hW : w.alloc (.cells #[.int .i64 a, .int .i64 b, .int .i64 c, .int .i64 d] 154) = W0 at P HB ⊢
          clear hW
          obtain ⟨p_0, p_1, p_2, p_3⟩ := cells4 (unhide P)
          go_wp2_with fail
          refine (unhide H1 _).mono ?_
          rintro e wk1 ⟨rfl, bk1⟩
          replace P := hide (cells_nx (unhide P) bk1)
          replace HB := hide (below_nx (unhide HB) bk1)
          clear bk1
          clear p_0 p_1 p_2 p_3
          obtain ⟨p_0, p_1, p_2, p_3⟩ := cells4 (unhide P)
          go_wp2_with fail
          refine (unhide H2 _).mono ?_
          rintro e wk2 ⟨rfl, bk2⟩
          replace P := hide (cells_nx (unhide P) bk2)
          replace HB := hide (below_nx (unhide HB) bk2)
          clear bk2
          clear p_0 p_1 p_2 p_3
          obtain ⟨p_0, p_1, p_2, p_3⟩ := cells4 (unhide P)
          go_wp2
          go_ret
          exact ⟨rfl, unhide HB⟩
      · have d3 : decide (c < a) = true := decide_eq_true (by omega)
        have E : areaG a b c d = false := by rw [← Bool.not_eq_true, areaG_iff]; omega
        rw [E]
        clear E
        clear g1 g2
        replace h3 : c < a := by omega
        go_enter Tryz.func112, Tryz.ntmps112
        go_upto_region 1 with fail
        have P := hide (cells_new w 154 #[.int .i64 a, .int .i64 b, .int .i64 c, .int .i64 d])
        have HB : Hid (Below w.heap.size w (w.alloc (.cells #[.int .i64 a, .int .i64 b, .int .i64 c, .int .i64 d] 154))) := hide (below_al _ _)
        generalize hW : w.alloc (.cells #[.int .i64 a, .int .i64 b, .int .i64 c, .int .i64 d] 154) = W0 at P HB ⊢
        clear hW
        obtain ⟨p_0, p_1, p_2, p_3⟩ := cells4 (unhide P)
        go_wp2_with fail
        refine (unhide H1 _).mono ?_
        rintro e wk1 ⟨rfl, bk1⟩
        replace P := hide (cells_nx (unhide P) bk1)
        replace HB := hide (below_nx (unhide HB) bk1)
        clear bk1
        clear p_0 p_1 p_2 p_3
        obtain ⟨p_0, p_1, p_2, p_3⟩ := cells4 (unhide P)
        go_wp2_with fail
        refine (unhide H2 _).mono ?_
        rintro e wk2 ⟨rfl, bk2⟩
        replace P := hide (cells_nx (unhide P) bk2)
        replace HB := hide (below_nx (unhide HB) bk2)
        clear bk2
        clear p_0 p_1 p_2 p_3
        obtain ⟨p_0, p_1, p_2, p_3⟩ := cells4 (unhide P)
        go_wp2
        go_ret
        exact ⟨rfl, unhide HB⟩

end Go.Proofs.YtloamahbghjjgaaGreatDoor

namespace Go.Proofs.YtloamahbghjjgaaGreatDoor
open Go.RowKit

end Go.Proofs.YtloamahbghjjgaaGreatDoor
