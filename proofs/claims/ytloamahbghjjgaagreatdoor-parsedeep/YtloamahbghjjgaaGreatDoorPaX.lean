/- Plain: whether kids stand as a tree asks: by a stack, and going back. -/
import Derived.Test.YtloamahbghjjgaaGreatDoorPaY
namespace Go.Proofs.YtloamahbghjjgaaGreatDoor

/-- Where a node begins: going back over its kids. -/
def begK (B : Int → Int) : Int → List Int → Int
  | nx, [] => nx
  | nx, k :: ks => if k ≠ nx - 1 ∨ k < 0 then -1 else if B k < 0 then -1 else begK B (B k) ks
def begF (t : List (List Int)) : Nat → Int → Int
  | 0, _ => -1
  | f + 1, a => begK (begF t f) a (t.getD a.toNat []).reverse
theorem begK_le (B : Int → Int) (hB : ∀ k, 0 ≤ k → B k ≤ k) : ∀ (ks : List Int) (nx : Int), 0 ≤ nx → begK B nx ks ≤ nx
  | [], nx, _ => Int.le_refl _
  | k :: ks, nx, h => by
    rw [begK]
    by_cases h1 : k ≠ nx - 1 ∨ k < 0
    · rw [if_pos h1]; omega
    · rw [if_neg h1]
      by_cases h2 : B k < 0
      · rw [if_pos h2]; omega
      · rw [if_neg h2]
        have h3 := hB k (by omega)
        have := begK_le B hB ks (B k) (by omega)
        omega
theorem begF_le (t : List (List Int)) : ∀ (f : Nat) (a : Int), 0 ≤ a → begF t f a ≤ a
  | 0, a, h => by rw [begF]; omega
  | f + 1, a, h => by rw [begF]; exact begK_le _ (begF_le t f) _ _ h
theorem begK_same (B B' : Int → Int) (hB : ∀ k, 0 ≤ k → B k ≤ k) : ∀ (ks : List Int) (nx : Int), (∀ k, 0 ≤ k → k < nx → B k = B' k) → begK B nx ks = begK B' nx ks
  | [], nx, _ => rfl
  | k :: ks, nx, h => by
    rw [begK, begK]
    by_cases h1 : k ≠ nx - 1 ∨ k < 0
    · rw [if_pos h1, if_pos h1]
    · rw [if_neg h1, if_neg h1, ← h k (by omega) (by omega)]
      by_cases h2 : B k < 0
      · rw [if_pos h2, if_pos h2]
      · rw [if_neg h2, if_neg h2]
        have h3 := hB k (by omega)
        exact begK_same B B' hB ks (B k) (fun j h4 h5 => h j h4 (by omega))
theorem begF_same (t : List (List Int)) : ∀ (f g : Nat) (a : Int), a < f → a < g → 0 ≤ a → begF t f a = begF t g a
  | 0, g, a, h, _, h0 => by omega
  | f + 1, 0, a, _, h, h0 => by omega
  | f + 1, g + 1, a, h1, h2, h0 => by
    rw [begF, begF]
    exact begK_same _ _ (begF_le t f) _ _ (fun k h3 h4 => begF_same t f g k (by omega) (by omega) h3)
/-- Where all of a node begins; below 0: its kids stand elsewhere. -/
def Beg (t : List (List Int)) (a : Nat) : Int := begF t (a + 1) a
theorem Beg_le (t : List (List Int)) (a : Nat) : Beg t a ≤ a := begF_le t _ _ (by omega)
theorem Beg_eq (t : List (List Int)) (a : Nat) : Beg t a = begK (fun k => Beg t k.toNat) a (t.getD a []).reverse := by
  unfold Beg
  rw [begF, Int.toNat_natCast]
  refine begK_same _ _ (begF_le t a) _ _ (fun k h1 h2 => ?_)
  rw [begF_same t a (k.toNat + 1) k (by omega) (by omega) h1]
  rw [Int.toNat_of_nonneg h1]
/-- The places that are nobody's kids yet. -/
def stkF : List (List Int) → Nat → List Int → Option (List Int)
  | [], _, free => some free
  | kids :: rest, p, free =>
    if free.length < kids.length then none
    else if free.drop (free.length - kids.length) = kids then stkF rest (p + 1) (free.take (free.length - kids.length) ++ [(p : Int)])
    else none
def standsB (t : List (List Int)) : Bool := match stkF t 0 [] with | some f => f.length == 1 | none => false
def tileR (t : List (List Int)) : List Int → Int → Prop
  | [], p => p = 0
  | r :: rs, p => r = p - 1 ∧ 0 ≤ r ∧ 0 ≤ Beg t r.toNat ∧ tileR t rs (Beg t r.toNat)
theorem tile_pos (t : List (List Int)) : ∀ (rs : List Int) (p : Int), tileR t rs p → 0 ≤ p
  | [], p, h => by have : p = 0 := h; omega
  | r :: rs, p, h => by have := h.1; have := h.2.1; omega
theorem tile_kids (t : List (List Int)) : ∀ (kr rs : List Int) (p : Int), tileR t (kr ++ rs) p → tileR t rs (begK (fun k => Beg t k.toNat) p kr)
  | [], rs, p, h => h
  | k :: kr, rs, p, h => by
    obtain ⟨h1, h2, h3, h4⟩ := h
    rw [begK, if_neg (by omega), if_neg (by omega)]
    exact tile_kids t kr rs _ h4
theorem stk_tile (t : List (List Int)) : ∀ (l : List (List Int)) (p : Nat) (free g : List Int), l = t.drop p → stkF l p free = some g → tileR t free.reverse p → p ≤ t.length → tileR t g.reverse t.length
  | [], p, free, g, hl, h, ht, hp => by
    rw [stkF] at h
    cases h
    have : t.length = p := by
      have h1 : (t.drop p).length = 0 := by rw [← hl]; rfl
      rw [List.length_drop] at h1; omega
    rw [this]; exact ht
  | kids :: l, p, free, g, hl, h, ht, hp => by
    rw [stkF] at h
    by_cases h1 : free.length < kids.length
    · rw [if_pos h1] at h; cases h
    rw [if_neg h1] at h
    by_cases h2 : free.drop (free.length - kids.length) = kids
    · rw [if_pos h2] at h
      have hlt : p < t.length := by
        have h3 : (t.drop p).length = l.length + 1 := by rw [← hl]; rfl
        rw [List.length_drop] at h3; omega
      have hk : t.getD p [] = kids := by
        have h3 : (t.drop p)[0]? = some kids := by rw [← hl]; rfl
        rw [List.getElem?_drop, Nat.add_zero] at h3
        rw [List.getD_eq_getElem?_getD, h3]; rfl
      have hl' : l = t.drop (p + 1) := by
        have h3 : (t.drop p).drop 1 = l := by rw [← hl]; rfl
        rw [← h3, List.drop_drop]
      refine stk_tile t l (p + 1) _ g hl' h ?_ (by omega)
      have e : free.reverse = kids.reverse ++ (free.take (free.length - kids.length)).reverse := by
        have := List.take_append_drop (free.length - kids.length) free
        rw [h2] at this
        rw [← List.reverse_append, this]
      rw [e] at ht
      have hq := tile_kids t _ _ _ ht
      rw [← hk, ← Beg_eq] at hq
      rw [List.reverse_append, List.reverse_singleton, List.singleton_append, hk] at *
      refine ⟨by omega, by omega, ?_, ?_⟩
      · rw [Int.toNat_natCast]; exact tile_pos t _ _ hq
      · rw [Int.toNat_natCast]; exact hq
    · rw [if_neg h2] at h; cases h
theorem kids_stk (t : List (List Int)) (r : Nat) (ih : ∀ k : Nat, k < r → 0 ≤ Beg t k → ∀ F : List Int, stkF (t.drop (Beg t k).toNat) (Beg t k).toNat F = stkF (t.drop (k + 1)) (k + 1) (F ++ [(k : Int)])) :
    ∀ (kr : List Int) (nx : Int), 0 ≤ nx → nx ≤ r → 0 ≤ begK (fun k => Beg t k.toNat) nx kr → ∀ F : List Int,
      stkF (t.drop (begK (fun k => Beg t k.toNat) nx kr).toNat) (begK (fun k => Beg t k.toNat) nx kr).toNat F = stkF (t.drop nx.toNat) nx.toNat (F ++ kr.reverse)
  | [], nx, _, _, _, F => by simp [begK]
  | k :: kr, nx, h0, hr, hb, F => by
    rw [begK] at hb ⊢
    by_cases h1 : k ≠ nx - 1 ∨ k < 0
    · rw [if_pos h1] at hb; omega
    rw [if_neg h1] at hb ⊢
    by_cases h2 : Beg t k.toNat < 0
    · rw [if_pos h2] at hb; omega
    rw [if_neg h2] at hb ⊢
    have hle := Beg_le t k.toNat
    rw [kids_stk t r ih kr (Beg t k.toNat) (by omega) (by omega) hb F, ih k.toNat (by omega) (by omega)]
    rw [show k.toNat + 1 = nx.toNat by omega, List.reverse_cons, List.append_assoc, Int.toNat_of_nonneg (by omega)]
theorem beg_stk (t : List (List Int)) : ∀ (n r : Nat), r < n → r < t.length → 0 ≤ Beg t r → ∀ F : List Int, stkF (t.drop (Beg t r).toNat) (Beg t r).toNat F = stkF (t.drop (r + 1)) (r + 1) (F ++ [(r : Int)])
  | 0, r, h, _, _, _ => by omega
  | n + 1, r, h, hr, hb, F => by
    have e := Beg_eq t r
    have hk := kids_stk t r (fun k hk hb F => beg_stk t n k (by omega) (by omega) hb F) (t.getD r []).reverse (r : Int) (by omega) (Int.le_refl _) (by rw [← e]; exact hb) F
    rw [← e] at hk
    rw [hk, Int.toNat_natCast, List.reverse_reverse]
    have hd : t.drop r = t.getD r [] :: t.drop (r + 1) := by
      rw [List.drop_eq_getElem_cons hr, List.getD_eq_getElem?_getD, List.getElem?_eq_getElem hr]; rfl
    rw [hd, stkF, if_neg (by simp), if_pos (by simp)]
    congr 1
    simp
/-- Both ways of telling a tree are one. -/
theorem stands_beg (t : List (List Int)) (h : t ≠ []) : standsB t = decide (Beg t (t.length - 1) = 0) := by
  have hpos : 0 < t.length := List.length_pos_iff.mpr h
  by_cases hb : Beg t (t.length - 1) = 0
  · rw [decide_eq_true hb]
    have := beg_stk t t.length (t.length - 1) (by omega) (by omega) (by omega) []
    rw [hb, show t.length - 1 + 1 = t.length by omega] at this
    simp only [Int.toNat_zero, List.drop_zero, List.nil_append, List.drop_length, stkF] at this
    unfold standsB
    rw [this]; rfl
  · rw [decide_eq_false hb]
    unfold standsB
    cases hs : stkF t 0 [] with
    | none => rfl
    | some g =>
      have ht := stk_tile t t 0 [] g rfl hs rfl (by omega)
      simp only []
      cases hl : g.length == 1 with
      | false => rfl
      | true =>
        exfalso
        match g, hl with
        | [x], _ =>
          obtain ⟨h1, h2, h3, h4⟩ := ht
          have h5 : Beg t x.toNat = 0 := h4
          rw [show x.toNat = t.length - 1 by omega] at h5
          exact hb h5
end Go.Proofs.YtloamahbghjjgaaGreatDoor

namespace Go.Proofs.YtloamahbghjjgaaGreatDoor

/-- How deep the deepest of a node stands, if that one stands within so many. -/
def deepF (t : List (List Int)) (c : Nat → Nat) : Nat → Nat → Nat → Nat
  | 0, _, a => a
  | f + 1, r, a => (t.getD r []).foldl (fun n k => max n (deepF t c f k.toNat (a + c r))) a
def Dp (t : List (List Int)) (c : Nat → Nat) (r a : Nat) : Nat := deepF t c (r + 1) r a
def setK (arr : List Nat) (ks : List Int) (v : Nat) : List Nat := ks.foldl (fun a k => a.set k.toNat v) arr
def stepN (t : List (List Int)) (c : Nat → Nat) (arr : List Nat) (p : Nat) : List Nat := setK arr (t.getD p []) (arr.getD p 0 + c p)
/-- What is around the nodes, told from the last one on. -/
def runN (t : List (List Int)) (c : Nat → Nat) : Nat → List Nat → List Nat
  | 0, arr => arr
  | p + 1, arr => runN t c p (stepN t c arr p)
theorem setK_len : ∀ (ks : List Int) (arr : List Nat) (v : Nat), (setK arr ks v).length = arr.length
  | [], arr, v => rfl
  | k :: ks, arr, v => by
    show (setK (arr.set k.toNat v) ks v).length = _
    rw [setK_len ks]; simp
theorem setK_out : ∀ (ks : List Int) (arr : List Nat) (v j : Nat), (∀ k ∈ ks, k.toNat ≠ j) → (setK arr ks v).getD j 0 = arr.getD j 0
  | [], arr, v, j, _ => rfl
  | k :: ks, arr, v, j, h => by
    show (setK (arr.set k.toNat v) ks v).getD j 0 = _
    rw [setK_out ks _ v j (fun x hx => h x (by simp [hx]))]
    have := h k (by simp)
    simp [List.getD_eq_getElem?_getD, this]
theorem setK_in : ∀ (ks : List Int) (arr : List Nat) (v j : Nat), j < arr.length → (∃ k ∈ ks, k.toNat = j) → (setK arr ks v).getD j 0 = v
  | [], arr, v, j, _, h => by obtain ⟨k, hk, _⟩ := h; cases hk
  | k :: ks, arr, v, j, hj, h => by
    show (setK (arr.set k.toNat v) ks v).getD j 0 = _
    by_cases hin : ∃ x ∈ ks, x.toNat = j
    · exact setK_in ks _ v j (by simpa using hj) hin
    · rw [setK_out ks _ v j (fun x hx e => hin ⟨x, hx, e⟩)]
      obtain ⟨x, hx, e⟩ := h
      have hk : k.toNat = j := by
        rcases List.mem_cons.1 hx with rfl | hx
        · exact e
        · exact absurd ⟨x, hx, e⟩ hin
      rw [List.getD_eq_getElem?_getD, hk, List.getElem?_set_self hj]; rfl
theorem foldl_top (g : Int → Nat) : ∀ (ks : List Int) (a : Nat), a ≤ ks.foldl (fun n k => max n (g k)) a ∧ (∀ k ∈ ks, g k ≤ ks.foldl (fun n k => max n (g k)) a) ∧ (ks.foldl (fun n k => max n (g k)) a = a ∨ ∃ k ∈ ks, ks.foldl (fun n k => max n (g k)) a = g k)
  | [], a => ⟨Nat.le_refl _, (fun k hk => by cases hk), Or.inl rfl⟩
  | x :: ks, a => by
    obtain ⟨h1, h2, h3⟩ := foldl_top g ks (max a (g x))
    simp only [List.foldl_cons]
    refine ⟨by omega, fun k hk => ?_, ?_⟩
    · rcases List.mem_cons.1 hk with rfl | hk
      · omega
      · exact h2 k hk
    · rcases h3 with h3 | ⟨k, hk, h3⟩
      · rw [h3]
        rcases Nat.le_total a (g x) with h | h
        · exact Or.inr ⟨x, by simp, by omega⟩
        · exact Or.inl (by omega)
      · exact Or.inr ⟨k, by simp [hk], h3⟩
/-- Kids of a node that is well lie ahead of it, none ahead of its beginning. -/
theorem begK_range (B : Int → Int) (hB : ∀ k, 0 ≤ k → B k ≤ k) : ∀ (ks : List Int) (nx : Int), 0 ≤ begK B nx ks → 0 ≤ nx → ∀ k ∈ ks, begK B nx ks ≤ k ∧ k < nx ∧ 0 ≤ k ∧ 0 ≤ B k
  | [], _, _, _, k, hk => by cases hk
  | x :: ks, nx, h, h0, k, hk => by
    rw [begK] at h ⊢
    by_cases h1 : x ≠ nx - 1 ∨ x < 0
    · rw [if_pos h1] at h; omega
    rw [if_neg h1] at h ⊢
    by_cases h2 : B x < 0
    · rw [if_pos h2] at h; omega
    rw [if_neg h2] at h ⊢
    have h3 := hB x (by omega)
    have h4 := begK_le B hB ks (B x) (by omega)
    rcases List.mem_cons.1 hk with rfl | hk
    · omega
    · have := begK_range B hB ks (B x) h (by omega) k hk
      omega
theorem deep_same (t : List (List Int)) (c : Nat → Nat) : ∀ (n f g r a : Nat), r < n → r < f → r < g → 0 ≤ Beg t r → deepF t c f r a = deepF t c g r a
  | 0, _, _, _, _, h, _, _, _ => by omega
  | n + 1, 0, _, r, a, _, h, _, _ => by omega
  | n + 1, f + 1, 0, r, a, _, _, h, _ => by omega
  | n + 1, f + 1, g + 1, r, a, hn, hf, hg, hb => by
    rw [deepF, deepF]
    rw [Beg_eq] at hb
    have hr := begK_range (fun k => Beg t k.toNat) (fun k hk => by have := Beg_le t k.toNat; omega) _ _ hb (by omega)
    have : ∀ (ks : List Int) (b : Nat), (∀ k ∈ ks, k ∈ t.getD r []) → ks.foldl (fun n k => max n (deepF t c f k.toNat (a + c r))) b = ks.foldl (fun n k => max n (deepF t c g k.toNat (a + c r))) b := by
      intro ks
      induction ks with
      | nil => intro b _; rfl
      | cons k ks ih =>
        intro b h
        have hk := hr k (List.mem_reverse.2 (h k (by simp)))
        rw [List.foldl_cons, List.foldl_cons, deep_same t c n f g k.toNat (a + c r) (by omega) (by omega) (by omega) hk.2.2.2]
        exact ih _ (fun x hx => h x (by simp [hx]))
    exact this _ _ (fun _ h => h)
theorem Dp_eq (t : List (List Int)) (c : Nat → Nat) (r a : Nat) (hb : 0 ≤ Beg t r) : Dp t c r a = (t.getD r []).foldl (fun n k => max n (Dp t c k.toNat (a + c r))) a := by
  unfold Dp
  rw [deepF]
  rw [Beg_eq] at hb
  have hr := begK_range (fun k => Beg t k.toNat) (fun k hk => by have := Beg_le t k.toNat; omega) _ _ hb (by omega)
  have : ∀ (ks : List Int) (b : Nat), (∀ k ∈ ks, k ∈ t.getD r []) → ks.foldl (fun n k => max n (deepF t c r k.toNat (a + c r))) b = ks.foldl (fun n k => max n (deepF t c (k.toNat + 1) k.toNat (a + c r))) b := by
    intro ks
    induction ks with
    | nil => intro b _; rfl
    | cons k ks ih =>
      intro b h
      have hk := hr k (List.mem_reverse.2 (h k (by simp)))
      rw [List.foldl_cons, List.foldl_cons, deep_same t c (k.toNat + 1) r (k.toNat + 1) k.toNat (a + c r) (by omega) (by omega) (by omega) hk.2.2.2]
      exact ih _ (fun x hx => h x (by simp [hx]))
  exact this _ _ (fun _ h => h)
/-- What is told of a part of a tree. -/
structure Told (arr arr' : List Nat) (s r D : Nat) : Prop where
  len : arr'.length = arr.length
  out : ∀ j, j < s ∨ r ≤ j → arr'.getD j 0 = arr.getD j 0
  le : ∀ j, s ≤ j → j ≤ r → arr'.getD j 0 ≤ D
  top : ∃ j, s ≤ j ∧ j ≤ r ∧ arr'.getD j 0 = D
theorem kids_told (t : List (List Int)) (c : Nat → Nat) (r : Nat)
    (ih : ∀ k : Nat, k < r → 0 ≤ Beg t k → ∀ arr : List Nat, arr.length = t.length → ∃ arr', runN t c (k + 1) arr = runN t c (Beg t k).toNat arr' ∧ Told arr arr' (Beg t k).toNat k (Dp t c k (arr.getD k 0)))
    (inn D : Nat) : ∀ (kr : List Int) (nx : Int), 0 ≤ nx → nx ≤ r → 0 ≤ begK (fun k => Beg t k.toNat) nx kr → (∀ k ∈ kr, Dp t c k.toNat inn ≤ D) → ∀ arr : List Nat, arr.length = t.length → (∀ k ∈ kr, arr.getD k.toNat 0 = inn) →
      ∃ arr', runN t c nx.toNat arr = runN t c (begK (fun k => Beg t k.toNat) nx kr).toNat arr' ∧ arr'.length = arr.length ∧ (∀ j, j < (begK (fun k => Beg t k.toNat) nx kr).toNat ∨ nx.toNat ≤ j → arr'.getD j 0 = arr.getD j 0) ∧
        (∀ j, (begK (fun k => Beg t k.toNat) nx kr).toNat ≤ j → j < nx.toNat → arr'.getD j 0 ≤ D) ∧ (∀ k ∈ kr, ∃ j, (begK (fun k => Beg t k.toNat) nx kr).toNat ≤ j ∧ j < nx.toNat ∧ arr'.getD j 0 = Dp t c k.toNat inn)
  | [], nx, _, _, _, _, arr, _, _ => ⟨arr, rfl, rfl, fun _ _ => rfl, fun j h1 h2 => by simp only [begK] at h1; omega, fun k hk => by cases hk⟩
  | k :: kr, nx, h0, hr, hb, hD, arr, hl, hin => by
    have hrange := begK_range (fun k => Beg t k.toNat) (fun k hk => by have := Beg_le t k.toNat; omega) _ _ hb h0
    rw [begK] at hb hrange ⊢
    by_cases h1 : k ≠ nx - 1 ∨ k < 0
    · rw [if_pos h1] at hb; omega
    rw [if_neg h1] at hb hrange ⊢
    by_cases h2 : Beg t k.toNat < 0
    · rw [if_pos h2] at hb; omega
    rw [if_neg h2] at hb hrange ⊢
    have hle := Beg_le t k.toNat
    have hle2 := begK_le (fun k => Beg t k.toNat) (fun k hk => by have := Beg_le t k.toNat; omega) kr (Beg t k.toNat) (by omega)
    obtain ⟨arr1, e1, T1⟩ := ih k.toNat (by omega) (by omega) arr hl
    rw [hin k (by simp)] at T1
    have hkin := begK_range (fun k => Beg t k.toNat) (fun k hk => by have := Beg_le t k.toNat; omega) kr (Beg t k.toNat) hb (by omega)
    obtain ⟨arr2, e2, g1, g2, g3, g4⟩ := kids_told t c r ih inn D kr (Beg t k.toNat) (by omega) (by omega) hb (fun x hx => hD x (by simp [hx])) arr1 (by rw [T1.len, hl])
      (fun x hx => by have := hkin x hx; rw [T1.out _ (Or.inl (by omega))]; exact hin x (by simp [hx]))
    generalize hq : begK (fun k => Beg t k.toNat) (Beg t k.toNat) kr = q at hb hrange hle2 hkin e2 g2 g3 g4 ⊢
    clear hq
    refine ⟨arr2, ?_, by rw [g1, T1.len], ?_, ?_, ?_⟩
    · rw [show nx.toNat = k.toNat + 1 by omega, e1, e2]
    · intro j hj
      rw [g2 j (by omega), T1.out j (by omega)]
    · intro j hj1 hj2
      by_cases hj : j < (Beg t k.toNat).toNat
      · exact g3 j hj1 hj
      · rw [g2 j (Or.inr (by omega))]
        exact Nat.le_trans (T1.le j (by omega) (by omega)) (hD k (by simp))
    · intro x hx
      rcases List.mem_cons.1 hx with rfl | hx
      · obtain ⟨j, j1, j2, j3⟩ := T1.top
        exact ⟨j, by omega, by omega, by rw [g2 j (Or.inr (by omega))]; exact j3⟩
      · obtain ⟨j, j1, j2, j3⟩ := g4 x hx
        exact ⟨j, j1, by omega, j3⟩
theorem node_told (t : List (List Int)) (c : Nat → Nat) : ∀ (n r : Nat), r < n → r < t.length → 0 ≤ Beg t r → ∀ arr : List Nat, arr.length = t.length →
    ∃ arr', runN t c (r + 1) arr = runN t c (Beg t r).toNat arr' ∧ Told arr arr' (Beg t r).toNat r (Dp t c r (arr.getD r 0))
  | 0, r, h, _, _, _, _ => by omega
  | n + 1, r, hn, hr, hb, arr, hl => by
    have e := Beg_eq t r
    have hle := Beg_le t r
    have hb' := hb
    rw [e] at hb'
    have hrange := begK_range (fun k => Beg t k.toNat) (fun k hk => by have := Beg_le t k.toNat; omega) _ _ hb' (by omega)
    rw [← e] at hrange
    have hD := Dp_eq t c r (arr.getD r 0) hb
    obtain ⟨f1, f2, f3⟩ := foldl_top (fun k => Dp t c k.toNat (arr.getD r 0 + c r)) (t.getD r []) (arr.getD r 0)
    rw [← hD] at f1 f2 f3
    have hk : ∀ k ∈ t.getD r [], (Beg t r ≤ k ∧ k < r ∧ 0 ≤ k ∧ 0 ≤ Beg t k.toNat) := fun k hk => hrange k (List.mem_reverse.2 hk)
    obtain ⟨arr', e1, g1, g2, g3, g4⟩ := kids_told t c r (fun k hk hb arr hl => node_told t c n k (by omega) (by omega) hb arr hl) (arr.getD r 0 + c r) (Dp t c r (arr.getD r 0)) (t.getD r []).reverse (r : Int) (by omega) (Int.le_refl _) hb'
      (fun k hk => f2 k (List.mem_reverse.1 hk)) (stepN t c arr r) (by unfold stepN; rw [setK_len, hl])
      (fun k hk' => by
        have h1 := hk k (List.mem_reverse.1 hk')
        unfold stepN
        exact setK_in _ _ _ _ (by omega) ⟨k, List.mem_reverse.1 hk', rfl⟩)
    rw [← e] at e1 g2 g3 g4
    rw [Int.toNat_natCast] at e1 g2 g3 g4
    have hrr : arr'.getD r 0 = arr.getD r 0 := by
      rw [g2 r (Or.inr (Nat.le_refl _))]
      unfold stepN
      exact setK_out _ _ _ _ (fun k hk' => by have := hk k hk'; omega)
    refine ⟨arr', e1, ⟨by rw [g1]; unfold stepN; exact setK_len _ _ _, ?_, ?_, ?_⟩⟩
    · intro j hj
      rw [g2 j hj]
      unfold stepN
      exact setK_out _ _ _ _ (fun k hk' => by have := hk k hk'; omega)
    · intro j h1 h2
      by_cases hj : j = r
      · rw [hj, hrr]; exact f1
      · exact g3 j h1 (by omega)
    · rcases f3 with h | ⟨k, hk', h⟩
      · exact ⟨r, by omega, Nat.le_refl _, by rw [hrr, h]⟩
      · obtain ⟨j, j1, j2, j3⟩ := g4 k (List.mem_reverse.2 hk')
        exact ⟨j, j1, by omega, by rw [h]; exact j3⟩
/-- The greatest number that is told is how deep the whole goes. -/
theorem run_deep (t : List (List Int)) (c : Nat → Nat) (h : 0 < t.length) (hb : Beg t (t.length - 1) = 0) :
    (runN t c t.length (List.replicate t.length 0)).length = t.length ∧ (∀ j, j < t.length → (runN t c t.length (List.replicate t.length 0)).getD j 0 ≤ Dp t c (t.length - 1) 0) ∧ ∃ j, j < t.length ∧ (runN t c t.length (List.replicate t.length 0)).getD j 0 = Dp t c (t.length - 1) 0 := by
  obtain ⟨arr', e, T⟩ := node_told t c t.length (t.length - 1) (by omega) (by omega) (by omega) (List.replicate t.length 0) (by simp)
  rw [hb, show t.length - 1 + 1 = t.length by omega] at e
  rw [hb] at T
  have h0 : (List.replicate t.length 0).getD (t.length - 1) 0 = 0 := by
    rw [List.getD_eq_getElem?_getD, List.getElem?_replicate]; split <;> rfl
  rw [h0] at T
  have e' : runN t c t.length (List.replicate t.length 0) = arr' := e
  rw [e']
  refine ⟨by rw [T.len]; simp, fun j hj => T.le j (by simp) (by omega), ?_⟩
  obtain ⟨j, _, j2, j3⟩ := T.top
  exact ⟨j, by omega, j3⟩
end Go.Proofs.YtloamahbghjjgaaGreatDoor
