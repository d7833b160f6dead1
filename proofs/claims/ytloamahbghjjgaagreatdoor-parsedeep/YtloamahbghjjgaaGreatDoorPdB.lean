/- Plain: formulas within one another; a formula in parentheses; two that are joined. -/
import Derived.Test.YtloamahbghjjgaaGreatDoorPdA
namespace Go.Proofs.YtloamahbghjjgaaGreatDoor

theorem line_plus : lineT (opT [43]) = 3 := by kernel_rfl
theorem sign_plus : signB (opT [43]) = true ∧ minusB (opT [43]) = false := ⟨by kernel_rfl, by kernel_rfl⟩
theorem sign_minus : signB (opT [45]) = true ∧ minusB (opT [45]) = true := ⟨by kernel_rfl, by kernel_rfl⟩
theorem one_wf (k : Nat) (hk : k ≤ 8) : (Syn.atom oneT).wf k := ⟨hk, Or.inl rfl⟩
def dpL : Nat → List UInt8
  | 0 => [49]
  | k + 1 => 40 :: (dpL k ++ [41])
def dsL : Nat → List UInt8
  | 0 => [49]
  | k + 1 => 45 :: dsL k
def dcL : Nat → List UInt8
  | 0 => [49]
  | k + 1 => 102 :: 40 :: (dcL k ++ [41])
def daL : Nat → List UInt8
  | 0 => []
  | k + 1 => (if 0 < k then daL k ++ [44] else daL k) ++ [49]
def dmL : Nat → List UInt8
  | 0 => [49]
  | k + 1 => dmL k ++ [43, 49]
def dpY : Nat → Syn
  | 0 => .atom oneT
  | k + 1 => .par oT (dpY k) cT
def dsY : Nat → Syn
  | 0 => .atom oneT
  | k + 1 => .sign (opT [45]) (dsY k)
def dcY : Nat → Syn
  | 0 => .atom oneT
  | k + 1 => .call fT oT (.first (dcY k)) cT
def daY : Nat → Syn
  | 0 => .nil
  | 1 => .first (.atom oneT)
  | k + 2 => .snoc (daY (k + 1)) commaT (.atom oneT)
def dmY : Nat → Syn
  | 0 => .atom oneT
  | k + 1 => .bin (dmY k) (opT [43]) (.atom oneT)
theorem par_told : ∀ k : Nat, Fm (dpL k) (dpY k) ∧ (dpY k).wf 8 ∧ (dpY k).nest = k ∧ (dpY k).most = 0 ∧ (dpY k).size = 1 ∧ (dpL k).length = 2 * k + 1
  | 0 => ⟨fm_one, one_wf 8 (by omega), rfl, rfl, rfl, rfl⟩
  | k + 1 => by
    obtain ⟨h1, h2, h3, h4, h5, h6⟩ := par_told k
    refine ⟨fm_of (fc_par h1), ⟨by omega, rfl, rfl, wf_down h2 (by omega) (by omega)⟩, ?_, h4, h5, ?_⟩
    · show (dpY k).nest + 1 = k + 1
      rw [h3]
    · show (40 :: (dpL k ++ [41])).length = _
      rw [List.length_cons, List.length_append, h6]; simp; omega
theorem sign_told : ∀ k : Nat, Fm (dsL k) (dsY k) ∧ (dsY k).wf 6 ∧ (dsY k).nest = k ∧ (dsY k).most = 0 ∧ (dsY k).size = k + 1 ∧ (dsL k).length = k + 1
  | 0 => ⟨fm_one, one_wf 6 (by omega), rfl, rfl, rfl, rfl⟩
  | k + 1 => by
    obtain ⟨h1, h2, h3, h4, h5, h6⟩ := sign_told k
    refine ⟨fm_minus h1, ⟨by omega, sign_minus.1, h2⟩, ?_, h4, ?_, ?_⟩
    · show (dsY k).nest + 1 = k + 1
      rw [h3]
    · show (if minusB (opT [45]) = true then (dsY k).size + 1 else (dsY k).size) = _
      rw [if_pos sign_minus.2, h5]
    · show (45 :: dsL k).length = _
      rw [List.length_cons, h6]
theorem call_told : ∀ k : Nat, Fm (dcL k) (dcY k) ∧ (dcY k).wf 8 ∧ (dcY k).nest = k ∧ (dcY k).most ≤ 1 ∧ (dcY k).size = k + 1 ∧ (dcL k).length = 3 * k + 1
  | 0 => ⟨fm_one, one_wf 8 (by omega), rfl, by decide, rfl, rfl⟩
  | k + 1 => by
    obtain ⟨h1, h2, h3, h4, h5, h6⟩ := call_told k
    refine ⟨fm_call (fm_first h1), ⟨by omega, rfl, rfl, rfl, rfl, wf_down h2 (by omega) (by omega)⟩, ?_, ?_, ?_, ?_⟩
    · show (dcY k).nest + 1 = k + 1
      rw [h3]
    · show max (dcY k).most 1 ≤ 1
      omega
    · show (dcY k).size + 1 = _
      rw [h5]
    · show (102 :: 40 :: (dcL k ++ [41])).length = _
      rw [List.length_cons, List.length_cons, List.length_append, h6]; simp; omega
theorem args_told : ∀ k : Nat, Fm (daL k) (daY k) ∧ (daY k).wf 9 ∧ (daY k).nest ≤ 1 ∧ (daY k).most = 0 ∧ (daY k).size = k ∧ ((daY k).kidsL 0).length = k ∧ (daL k).length ≤ 2 * k ∧ (0 < k → daY k ≠ .nil)
  | 0 => ⟨fm_nil, rfl, by decide, rfl, rfl, rfl, by decide, fun h => absurd h (by omega)⟩
  | 1 => ⟨fm_first fm_one, ⟨rfl, one_wf 1 (by omega)⟩, by decide, rfl, rfl, rfl, by decide, fun _ h => by cases h⟩
  | k + 2 => by
    obtain ⟨h1, h2, h3, h4, h5, h6, h7, h8⟩ := args_told (k + 1)
    have e : daL (k + 2) = daL (k + 1) ++ 44 :: [49] := by
      rw [daL, if_pos (by omega)]; simp
    refine ⟨by rw [e]; exact fm_snoc h1 fm_one, ⟨rfl, h2, h8 (by omega), rfl, one_wf 1 (by omega)⟩, ?_, ?_, ?_, ?_, ?_, fun _ h => by cases h⟩
    · show max (daY (k + 1)).nest (0 + 1) ≤ 1
      omega
    · show max (daY (k + 1)).most 0 = 0
      omega
    · show (daY (k + 1)).size + 1 = _
      rw [h5]
    · show ((daY (k + 1)).kidsL 0 ++ [_]).length = _
      rw [List.length_append, h6]; rfl
    · rw [e, List.length_append]; simp; omega
theorem sum_told : ∀ k : Nat, Fm (dmL k) (dmY k) ∧ (dmY k).wf 3 ∧ (dmY k).nest = 0 ∧ (dmY k).most = 0 ∧ (dmY k).size = 2 * k + 1 ∧ (dmL k).length = 2 * k + 1
  | 0 => ⟨fm_one, one_wf 3 (by omega), rfl, rfl, rfl, rfl⟩
  | k + 1 => by
    obtain ⟨h1, h2, h3, h4, h5, h6⟩ := sum_told k
    refine ⟨fm_sum h1 fm_one, ⟨by rw [line_plus]; omega, by rw [line_plus]; omega, by rw [line_plus]; exact h2, by rw [line_plus]; exact one_wf 4 (by omega)⟩, ?_, ?_, ?_, ?_⟩
    · show max (dmY k).nest 0 = 0
      omega
    · show max (dmY k).most 0 = 0
      omega
    · show (dmY k).size + 1 + 1 = _
      omega
    · show (dmL k ++ [43, 49]).length = _
      rw [List.length_append, h6]; rfl
theorem parseS_2 (z : Syn) : (parseS (some z)).2 = if 32 < z.nest then 8 else if 32 < z.most then 7 else if 256 < z.size then 10 else 0 := by
  unfold parseS
  simp only []
  split
  · rfl
  · split
    · rfl
    · split <;> rfl
theorem deep_par (k : Nat) (hk : k ≤ 100) : (parseL (dpL k)).2 = if 32 < k then 8 else 0 := by
  obtain ⟨h1, h2, h3, h4, h5, h6⟩ := par_told k
  rw [fm_parse h1 (wf_down h2 (by omega) (by omega)) (by omega), parseS_2, h3, h4, h5]
  split <;> rfl
theorem deep_sign (k : Nat) (hk : k ≤ 100) : (parseL (dsL k)).2 = if 32 < k then 8 else 0 := by
  obtain ⟨h1, h2, h3, h4, h5, h6⟩ := sign_told k
  rw [fm_parse h1 (wf_down h2 (by omega) (by omega)) (by omega), parseS_2, h3, h4, h5, if_neg (show ¬ 32 < 0 by omega), if_neg (show ¬ 256 < k + 1 by omega)]
theorem deep_call (k : Nat) (hk : k ≤ 100) : (parseL (dcL k)).2 = if 32 < k then 8 else 0 := by
  obtain ⟨h1, h2, h3, h4, h5, h6⟩ := call_told k
  rw [fm_parse h1 (wf_down h2 (by omega) (by omega)) (by omega), parseS_2, h3, h5, if_neg (show ¬ 32 < (dcY k).most by omega), if_neg (show ¬ 256 < k + 1 by omega)]
theorem deep_args (k : Nat) (hk : k ≤ 100) : (parseL (102 :: 40 :: (daL k ++ [41]))).2 = if 32 < k then 7 else 0 := by
  obtain ⟨h1, h2, h3, h4, h5, h6, h7, h8⟩ := args_told k
  have hw : (Syn.call fT oT (daY k) cT).wf 1 := ⟨by omega, rfl, rfl, rfl, h2⟩
  have e1 : (Syn.call fT oT (daY k) cT).nest = (daY k).nest := rfl
  have e2 : (Syn.call fT oT (daY k) cT).most = k := by
    show max (daY k).most ((daY k).kidsL 0).length = k
    rw [h4, h6]; omega
  have e3 : (Syn.call fT oT (daY k) cT).size = k + 1 := by
    show (daY k).size + 1 = k + 1
    rw [h5]
  rw [fm_parse (fm_call h1) hw (by simp; omega), parseS_2, e1, e2, e3, if_neg (show ¬ 32 < (daY k).nest by omega), if_neg (show ¬ 256 < k + 1 by omega)]
theorem full_sum (k : Nat) (hk : k ≤ 200) : (parseL (dmL k)).2 = if 256 < 2 * k + 1 then 10 else 0 := by
  obtain ⟨h1, h2, h3, h4, h5, h6⟩ := sum_told k
  rw [fm_parse h1 (wf_down h2 (by omega) (by omega)) (by omega), parseS_2, h3, h4, h5, if_neg (show ¬ 32 < 0 by omega), if_neg (show ¬ 32 < 0 by omega)]
theorem parseS_deep {z : Syn} (h : 32 < z.nest) : parseS (some z) = ([], 8) := by
  unfold parseS; simp only []; rw [if_pos h]
theorem parseS_ok {z : Syn} (h1 : z.nest ≤ 32) (h2 : z.most ≤ 32) (h3 : z.size ≤ 256) : parseS (some z) = (z.emit 0, 0) := by
  unfold parseS; simp only []; rw [if_neg (by omega), if_neg (by omega), if_neg (by omega)]
theorem parseS_full {z : Syn} (h1 : z.nest ≤ 32) (h2 : z.most ≤ 32) (h3 : 256 < z.size) : parseS (some z) = ([], 10) := by
  unfold parseS; simp only []; rw [if_neg (by omega), if_neg (by omega), if_pos h3]
/-- A formula in parentheses. -/
theorem plus_par {l : List UInt8} {nds : List Nd} (h : parseL l = (nds, 0)) (hl : l.length ≤ 500) : parseL (40 :: (l ++ [41])) = (nds, 0) ∨ parseL (40 :: (l ++ [41])) = ([], 8) := by
  obtain ⟨z, h1, h2, h3, h4, h5, rfl, _⟩ := fm_get h
  have hw : (Syn.par oT z cT).wf 1 := ⟨by omega, rfl, rfl, h2⟩
  rw [fm_parse (fm_of (fc_par h1)) hw (by simp; omega)]
  by_cases hn : 32 < z.nest + 1
  · exact Or.inr (parseS_deep hn)
  · exact Or.inl (parseS_ok (z := .par oT z cT) (by show z.nest + 1 ≤ 32; omega) h4 h5)
theorem plus_sign {l : List UInt8} {nds : List Nd} (h : parseL l = (nds, 0)) (hl : l.length ≤ 500) : parseL (43 :: 40 :: (l ++ [41])) = (nds, 0) ∨ parseL (43 :: 40 :: (l ++ [41])) = ([], 8) := by
  obtain ⟨z, h1, h2, h3, h4, h5, rfl, _⟩ := fm_get h
  have hw : (Syn.sign (opT [43]) (Syn.par oT z cT)).wf 1 := ⟨by omega, sign_plus.1, by omega, rfl, rfl, h2⟩
  rw [fm_parse (fm_plus (fm_of (fc_par h1))) hw (by simp; omega)]
  have e1 : (Syn.sign (opT [43]) (Syn.par oT z cT)).size = z.size := by
    show (if minusB (opT [43]) = true then z.size + 1 else z.size) = _
    rw [if_neg (by rw [sign_plus.2]; decide)]
  have e2 : (Syn.sign (opT [43]) (Syn.par oT z cT)).emit 0 = z.emit 0 := by
    show (if minusB (opT [43]) = true then z.emit 0 ++ [negN (0 + z.size - 1)] else z.emit 0) = _
    rw [if_neg (by rw [sign_plus.2]; decide)]
  by_cases hn : 32 < z.nest + 1 + 1
  · exact Or.inr (parseS_deep hn)
  · left
    rw [parseS_ok (z := .sign (opT [43]) (.par oT z cT)) (by show z.nest + 1 + 1 ≤ 32; omega) h4 (by rw [e1]; exact h5), e2]
/-- A node with its kids at other places. -/
def Nd.up (k : Nat) (n : Nd) : Nd := ⟨n.kind, n.op, n.val, n.ref, n.kids.map fun x => x + (k : Int)⟩
theorem call_up (t : Tk) (ks : List Nat) (k : Nat) : (callN t ks).up k = callN t (ks.map (· + k)) := by
  unfold callN Nd.up
  simp only []
  rw [List.map_map, List.map_map]
  congr 1
theorem args_up : ∀ {s : Syn} {j : Nat} (b k : Nat), s.wf j → s.kidsL (b + k) = (s.kidsL b).map (· + k)
  | .nil, _, _, _, _ => rfl
  | .first s, _, b, k, h => by
    have := size_pos h.2 (by omega)
    show [b + k + s.size - 1] = [b + s.size - 1 + k]
    congr 1; omega
  | .snoc l c s, _, b, k, h => by
    have := size_pos h.2.2.2.2 (by omega)
    show l.kidsL (b + k) ++ [b + k + l.size + s.size - 1] = (l.kidsL b ++ [b + l.size + s.size - 1]).map (· + k)
    rw [args_up b k h.2.1, List.map_append]
    congr 1
    show [b + k + l.size + s.size - 1] = [b + l.size + s.size - 1 + k]
    congr 1; omega
  | .atom _, _, _, _, _ => rfl
  | .par _ _ _, _, _, _, _ => rfl
  | .call _ _ _ _, _, _, _, _ => rfl
  | .sign _ _, _, _, _, _ => rfl
  | .pct _ _, _, _, _, _ => rfl
  | .bin _ _ _, _, _, _, _ => rfl
theorem neg_up {b k n : Nat} (h : 1 ≤ n) : (negN (b + n - 1)).up k = negN (b + k + n - 1) := by
  unfold negN Nd.up
  simp only [List.map_cons, List.map_nil]
  congr 2; omega
theorem pct_up {b k n : Nat} (h : 1 ≤ n) : (pctN (b + n - 1)).up k = pctN (b + k + n - 1) := by
  unfold pctN Nd.up
  simp only [List.map_cons, List.map_nil]
  congr 2; omega
theorem bin_up {t : Tk} {b k n m : Nat} (h : 1 ≤ n) (h' : 1 ≤ m) : (binN t (b + n - 1) (b + n + m - 1)).up k = binN t (b + k + n - 1) (b + k + n + m - 1) := by
  unfold binN Nd.up
  simp only [List.map_cons, List.map_nil]
  congr 3
  · omega
  · congr 1; omega
theorem atom_nup (t : Tk) (k : Nat) : (atomN t).up k = atomN t := by
  unfold atomN
  split <;> rfl
theorem emit_up : ∀ {s : Syn} {j : Nat} (b k : Nat), s.wf j → s.emit (b + k) = (s.emit b).map (Nd.up k)
  | .atom t, _, _, k, _ => by
    show [atomN t] = [(atomN t).up k]
    rw [atom_nup]
  | .par _ s _, _, b, k, h => emit_up (s := s) b k h.2.2.2
  | .call t _ l _, _, b, k, h => by
    show l.emit (b + k) ++ [callN t (l.kidsL (b + k))] = (l.emit b ++ [callN t (l.kidsL b)]).map (Nd.up k)
    rw [emit_up b k h.2.2.2.2, args_up b k h.2.2.2.2, List.map_append, List.map_singleton, call_up]
  | .sign t s, _, b, k, h => by
    have h1 := emit_up (s := s) b k h.2.2
    have h2 := size_pos h.2.2 (by omega)
    simp only [Syn.emit]
    split
    · rw [h1, List.map_append, List.map_singleton, neg_up h2]
    · exact h1
  | .pct s _, _, b, k, h => by
    have h2 := size_pos h.2.2 (by omega)
    show s.emit (b + k) ++ [pctN (b + k + s.size - 1)] = (s.emit b ++ [pctN (b + s.size - 1)]).map (Nd.up k)
    rw [emit_up (s := s) b k h.2.2, List.map_append, List.map_singleton, pct_up h2]
  | .bin x t y, _, b, k, h => by
    have h5 := line_le t
    have h2 := size_pos h.2.2.1 (by omega)
    have h3 := size_pos h.2.2.2 (by omega)
    show x.emit (b + k) ++ (y.emit (b + k + x.size) ++ [binN t (b + k + x.size - 1) (b + k + x.size + y.size - 1)]) = (x.emit b ++ (y.emit (b + x.size) ++ [binN t (b + x.size - 1) (b + x.size + y.size - 1)])).map (Nd.up k)
    rw [emit_up (s := x) b k h.2.2.1, show b + k + x.size = b + x.size + k by omega, emit_up (s := y) (b + x.size) k h.2.2.2, List.map_append, List.map_append, List.map_singleton, bin_up h2 h3, show b + x.size + k = b + k + x.size by omega]
  | .nil, _, _, _, _ => rfl
  | .first s, _, b, k, h => emit_up (s := s) b k h.2
  | .snoc l _ s, _, b, k, h => by
    show l.emit (b + k) ++ s.emit (b + k + l.size) = (l.emit b ++ s.emit (b + l.size)).map (Nd.up k)
    rw [emit_up (s := l) b k h.2.1, show b + k + l.size = b + l.size + k by omega, emit_up (s := s) (b + l.size) k h.2.2.2.2, List.map_append]
/-- What two formulas make. -/
def joinT (a b : List Nd) (last : Nd) : List Nd := a ++ (b.map (Nd.up a.length) ++ [last])
theorem join_bin {l m op : List UInt8} {a b : List Nd} (ha : parseL l = (a, 0)) (hb : parseL m = (b, 0)) (hl : l.length ≤ 200) (hm : m.length ≤ 200) (ho : op ∈ opsL) :
    parseL (40 :: (l ++ [41]) ++ (op ++ 40 :: (m ++ [41]))) = ([], 8) ∨ (parseL (40 :: (l ++ [41]) ++ (op ++ 40 :: (m ++ [41]))) = ([], 10) ∧ 256 ≤ a.length + b.length) ∨
    parseL (40 :: (l ++ [41]) ++ (op ++ 40 :: (m ++ [41]))) = (joinT a b (binN (opT op) (a.length - 1) (a.length + b.length - 1)), 0) := by
  obtain ⟨z, h1, h2, h3, h4, h5, rfl, _⟩ := fm_get ha
  obtain ⟨v, g1, g2, g3, g4, g5, rfl, _⟩ := fm_get hb
  have hop := ops_line op ho
  have hol : op.length ≤ 2 := by
    unfold opsL at ho
    simp only [List.mem_cons, List.not_mem_nil, or_false] at ho
    rcases ho with h | h | h | h | h | h | h | h | h | h | h | h <;> subst h <;> decide
  have hw : (Syn.bin (.par oT z cT) (opT op) (.par oT v cT)).wf 1 := ⟨hop.1, hop.1, ⟨by omega, rfl, rfl, h2⟩, ⟨by omega, rfl, rfl, g2⟩⟩
  rw [fm_parse (fc_bin (fc_par h1) (fm_of (fc_par g1)) ho) hw (by simp; omega)]
  rw [emit_len, emit_len]
  by_cases hn : 32 < max (z.nest + 1) (v.nest + 1)
  · exact Or.inl (parseS_deep hn)
  have e1 : (Syn.bin (.par oT z cT) (opT op) (.par oT v cT)).nest ≤ 32 := by show max (z.nest + 1) (v.nest + 1) ≤ 32; omega
  have e2 : (Syn.bin (.par oT z cT) (opT op) (.par oT v cT)).most ≤ 32 := by show max z.most v.most ≤ 32; omega
  by_cases hs : 256 < z.size + v.size + 1
  · exact Or.inr (Or.inl ⟨parseS_full e1 e2 hs, by omega⟩)
  · right; right
    rw [parseS_ok e1 e2 (by show z.size + v.size + 1 ≤ 256; omega)]
    unfold joinT
    have := emit_up (s := v) 0 z.size g2
    rw [Nat.zero_add] at this
    show (z.emit 0 ++ (v.emit (0 + z.size) ++ [binN (opT op) (0 + z.size - 1) (0 + z.size + v.size - 1)]), (0 : Int)) = _
    rw [emit_len, Nat.zero_add, this]
theorem join_call {l m : List UInt8} {a b : List Nd} (ha : parseL l = (a, 0)) (hb : parseL m = (b, 0)) (hl : l.length ≤ 200) (hm : m.length ≤ 200) :
    parseL (102 :: 40 :: ((l ++ 44 :: m) ++ [41])) = ([], 8) ∨ (parseL (102 :: 40 :: ((l ++ 44 :: m) ++ [41])) = ([], 10) ∧ 256 ≤ a.length + b.length) ∨
    parseL (102 :: 40 :: ((l ++ 44 :: m) ++ [41])) = (joinT a b (callN fT [a.length - 1, a.length + b.length - 1]), 0) := by
  obtain ⟨z, h1, h2, h3, h4, h5, rfl, _⟩ := fm_get ha
  obtain ⟨v, g1, g2, g3, g4, g5, rfl, _⟩ := fm_get hb
  have hw : (Syn.call fT oT (.snoc (.first z) commaT v) cT).wf 1 := ⟨by omega, rfl, rfl, rfl, rfl, ⟨rfl, h2⟩, fun h => (by cases h), rfl, g2⟩
  rw [fm_parse (fm_call (fm_snoc (fm_first h1) g1)) hw (by simp; omega)]
  rw [emit_len, emit_len]
  by_cases hn : 32 < max (z.nest + 1) (v.nest + 1)
  · exact Or.inl (parseS_deep hn)
  have e1 : (Syn.call fT oT (.snoc (.first z) commaT v) cT).nest ≤ 32 := by show max (z.nest + 1) (v.nest + 1) ≤ 32; omega
  have e2 : (Syn.call fT oT (.snoc (.first z) commaT v) cT).most ≤ 32 := by show max (max z.most v.most) 2 ≤ 32; omega
  by_cases hs : 256 < z.size + v.size + 1
  · exact Or.inr (Or.inl ⟨parseS_full e1 e2 hs, by omega⟩)
  · right; right
    rw [parseS_ok e1 e2 (by show z.size + v.size + 1 ≤ 256; omega)]
    unfold joinT
    have := emit_up (s := v) 0 z.size g2
    rw [Nat.zero_add] at this
    show ((z.emit 0 ++ v.emit (0 + z.size)) ++ [callN fT [0 + z.size - 1, 0 + z.size + v.size - 1]], (0 : Int)) = _
    rw [emit_len, Nat.zero_add, this, List.append_assoc]
end Go.Proofs.YtloamahbghjjgaaGreatDoor
