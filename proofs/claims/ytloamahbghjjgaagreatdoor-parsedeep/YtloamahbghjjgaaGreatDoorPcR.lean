/- What is told once of a tree: the references; the contract of a tree's Refs. -/
import Derived.Test.YtloamahbghjjgaaGreatDoorPcQ
import Derived.Test.YtloamahbghjjgaaGreatDoorPcN
namespace Go.Proofs.YtloamahbghjjgaaGreatDoor
open Go.RowKit
abbrev zFu : Value := .agg #[.string ⟨#[]⟩, .string ⟨#[]⟩, .int .i64 0, .int .i64 0, .bool false, .bool false, .int .i64 0, .int .i64 0, .bool false, .bool false, .bool false]
theorem infoFu : (Tryz.prog.info? 52).map (fun i => (i.zero, i.size, i.bytes)) = some (some zFu, 11, 88) := by kernel_rfl
def flatF (fs : List Fl) : List Value := fs.flatMap (fun f => f.cells.toList)
theorem flatF_snoc (fs : List Fl) (f : Fl) : flatF (fs ++ [f]) = flatF fs ++ f.cells.toList := by unfold flatF; simp
theorem flatF_len (fs : List Fl) : (flatF fs).length = fs.length * 11 := by
  induction fs with
  | nil => rfl
  | cons f fs ih =>
    unfold flatF at ih ⊢
    rw [List.flatMap_cons, List.length_append, ih, List.length_cons]
    have : f.cells.toList.length = 11 := rfl
    omega
theorem flatF_get : ∀ (fs : List Fl) (i : Nat) (f : Fl), fs[i]? = some f → ∀ (j : Nat) (u : Value), f.cells[j]? = some u → (flatF fs)[i * 11 + j]? = some u
  | [], i, p, h, _, _, _ => by simp at h
  | x :: fs, 0, p, h, j, u, hu => by
    simp only [List.getElem?_cons_zero, Option.some.injEq] at h
    subst h
    unfold flatF
    rw [List.flatMap_cons, Nat.zero_mul, Nat.zero_add]
    obtain ⟨hlt, _⟩ := Array.getElem?_eq_some_iff.1 hu
    rw [List.getElem?_append_left (by simpa using hlt)]
    simpa using hu
  | x :: fs, i + 1, p, h, j, u, hu => by
    rw [List.getElem?_cons_succ] at h
    have ih := flatF_get fs i p h j u hu
    unfold flatF at ih ⊢
    have hx : x.cells.toList.length = 11 := rfl
    rw [List.flatMap_cons, List.getElem?_append_right (by rw [hx]; omega), hx, show (i + 1) * 11 + j - 11 = i * 11 + j by omega]
    exact ih
/-- A row of references of one's own. -/
abbrev FullRow (w : World) (B : Nat) (v : Value) (fs : List Fl) : Prop := w.ownsRow B fuT 11 v fs.length (flatF fs)
theorem fulls_of_owns {w : World} {B : Nat} {v : Value} {fs : List Fl} (h : FullRow w B v fs) : ∃ a cap, v = .slice a fs.length cap ∧ fs.length ≤ cap ∧ FullsIn w a fs := by
  rcases h.2 with ⟨rfl, h0⟩ | ⟨g, cap, cur, rfl, hg, hh, hc, _, hs, ht⟩
  · exact ⟨none, 0, by rw [h0], by omega, Or.inl (List.eq_nil_of_length_eq_zero h0)⟩
  · refine ⟨_, cap, rfl, hc, Or.inr ⟨g, 0, rfl, (Array.getElem?_eq_some_iff.1 hh).1, fun i f hi j u hu => ?_⟩⟩
    have h1 := flatF_get fs i f hi j u hu
    rw [← ht] at h1
    rw [cell_of_row w g _ cur _ (0, 0) hh, Nat.zero_add]
    rw [List.getElem?_take] at h1
    split at h1
    · simpa using h1
    · cases h1
def onceF (all : List Fl) (n : Nd) : List Fl := if (n.kind == 1) && !hasF all n.ref then all ++ [n.ref] else all
def refsT (nds : List Nd) : List Fl := if tsoundB nds then nds.foldl onceF [] else []
theorem onceF_len : ∀ (l : List Nd) (all : List Fl), (l.foldl onceF all).length ≤ all.length + l.length
  | [], all => Nat.le_refl _
  | n :: l, all => by
    have := onceF_len l (onceF all n)
    have h2 : (onceF all n).length ≤ all.length + 1 := by
      unfold onceF; split <;> simp
    rw [List.foldl_cons, List.length_cons]; omega
set_option maxRecDepth 100000 in
set_option maxHeartbeats 8000000 in
theorem onceF_val (a : Option Addr) (cap : Nat) (nds : List Nd) (w : World) (hn : NodesIn w a nds) (hf : TreeFit nds) :
    Calls Tryz.prog 68 #[.slice a nds.length cap, .func (.func 69) #[] #[]] w fun e w' => (∃ v, e = .returned v ∧ FullRow w' w.heap.size v (refsT nds)) ∧ Below w.heap.size w w' := by
  have HN := hide hn
  have HF := hide hf
  have HS := hide (tsound_val a cap nds w hn hf)
  obtain ⟨res, hres⟩ : ∃ r, refsT nds = r := ⟨_, rfl⟩
  have HRES := hide hres
  rw [hres]
  obtain ⟨sb, hsb⟩ : ∃ sb, tsoundB nds = sb := ⟨_, rfl⟩
  have HSB := hide hsb
  rw [hsb] at HS
  have hl := hf.len
  obtain ⟨n, hnl⟩ : ∃ n, nds.length = n := ⟨_, rfl⟩
  have HNL := hide hnl
  rw [hnl] at HS hl ⊢
  obtain ⟨i0, hi, hz0, hz1, hz2⟩ := info_parts infoFu
  clear hn hf hsb hnl hres
  go_enter Tryz.func68, Tryz.ntmps68
  go_wp2_with fail
  refine (unhide HS).mono ?_
  rintro e w2 ⟨rfl, b2⟩
  have HB := hide b2
  clear b2
  cases sb with
  | false =>
    have HR0 : Hid (res = []) := hide (by rw [← unhide HRES]; unfold refsT; rw [unhide HSB]; rfl)
    go_wp2
    go_ret
    exact ⟨⟨_, rfl, by rw [unhide HR0]; exact World.ownsRow_nil _ _ _ _⟩, unhide HB⟩
  | true =>
    have HR0 : Hid (res = nds.foldl onceF []) := hide (by rw [← unhide HRES]; unfold refsT; rw [unhide HSB]; rfl)
    go_wp2_with fail
    go_loopw [5, 15] (fun v i wr => ∃ (k : Nat) (m : List Fl), i = .int .i64 (k : Int) ∧ k ≤ n ∧ Hid ((nds.take k).foldl onceF [] = m) ∧ Hid (wr.ownsRow w.heap.size fuT 11 v m.length (flatF m)) ∧ Hid (Below w.heap.size w wr)) (fun _ i _ => n - (intOf i).toNat)
    case atStart => exact ⟨0, [], rfl, by omega, hide rfl, hide (World.ownsRow_nil _ _ _ _), HB⟩
    case round =>
      obtain ⟨k, m, rfl, hk, HM, HO, HBW⟩ := hrel
      by_cases hlt : k < n
      · have hlti : (k : Int) < (n : Int) := by omega
        obtain ⟨nd, hnd⟩ : ∃ nd, nds[k]? = some nd := ⟨nds[k]'(by rw [unhide HNL]; exact hlt), List.getElem?_eq_getElem (by rw [unhide HNL]; exact hlt)⟩
        obtain ⟨g, off, ka, kcap, rfl, hg, hkc, hki, hcells⟩ := node_at (nodesIn_below (unhide HN) (unhide HBW)) k nd hnd
        have HTK : Hid ((nds.take (k + 1)).foldl onceF [] = onceF m nd) := hide (by
          rw [List.take_add_one, hnd, List.foldl_append, unhide HM]; rfl)
        have hml : m.length ≤ 1000 := by
          rw [← unhide HM]
          have h1 := onceF_len (nds.take k) []
          rw [List.length_take, unhide HNL, List.length_nil] at h1
          omega
        obtain ⟨va, vcap, rfl, hvc, hvs⟩ := fulls_of_owns (unhide HO)
        have HVS := hide hvs
        have HCR := hide (nd_range hcells)
        have st := nd_new wr nd (.slice ka nd.kids.length kcap) rfl
        have C5 := hide (range_cells0 (cells_new wr ndT (nd.cells (.slice ka nd.kids.length kcap))))
        have zN : (nd.cells (.slice ka nd.kids.length kcap)).size = 19 := rfl
        have HC1 := hide (fun w => refsOne_val nd (.slice ka nd.kids.length kcap) rfl w)
        obtain ⟨cs, hcs⟩ : ∃ cs, nd.cells (.slice ka nd.kids.length kcap) = cs := ⟨_, rfl⟩
        rw [hcs] at HC1 HCR st C5 zN
        have HIN : Hid ((Tryz.prog.info? 55).map (·.size) = some cs.toList.length) := hide (by rw [infoNs, Array.length_toList, zN])
        obtain ⟨b5, hb5⟩ : ∃ b, (nd.kind == 1) = b := ⟨_, rfl⟩
        obtain ⟨x, hx⟩ : ∃ x, nd.ref = x := ⟨_, rfl⟩
        obtain ⟨hc, hhc⟩ : ∃ b, hasF m x = b := ⟨_, rfl⟩
        have HTK2 : Hid (onceF m nd = if b5 && !hc then m ++ [x] else m) := hide (by unfold onceF; rw [hb5, hx, hhc])
        rw [hb5, hx] at HC1
        have HHC := hide hhc
        have HOA := hide ((unhide HO).alloc (.cells cs ndT))
        have HFC := hide (fun w (h : FullsIn w va m) => fcontains_val va vcap m x w h (by omega))
        rw [hhc] at HFC
        clear hb5 hhc hcs hcells hki hnd hvs
        have HXM : Hid (flatF (m ++ [x]) = flatF m ++ x.cells.toList) := hide (flatF_snoc m x)
        obtain ⟨X, hX⟩ : ∃ X, x = X := ⟨_, rfl⟩
        have HX := hide hX
        rw [hX] at HXM
        have HXC : Hid (X.cells.toList = x.cells.toList) := hide (by rw [hX])
        have HTK3 : Hid (onceF m nd = if b5 && !hc then m ++ [X] else m) := hide (by rw [← hX]; exact unhide HTK2)
        clear hX hx HTK2
        obtain ⟨bk, sh, ⟨c1, r1, f1, g1⟩, ⟨c2, r2, f2, g2⟩, wd⟩ := x
        unfold Fl.cells at HC1 HFC HXC
        simp only [] at HC1 HFC HXC
        go_wp2_with (first | (refine wpList_load_mid rfl 55 _ rfl g (off + k * 19) rfl cs.toList _ (unhide HCR) Tryz.underlying55 rfl (unhide HIN) ?_) | (refine wpList_load_mid rfl 55 _ rfl wr.heap.size 0 rfl cs.toList _ (unhide C5) Tryz.underlying55 rfl (unhide HIN) ?_))
        refine (unhide HC1 _).mono ?_
        rintro e w3 ⟨rfl, b3⟩
        have HB3 := hide (below_nx (below_nx (unhide HBW) (below_al wr (.cells cs ndT))) b3)
        have HO3 := hide (owns_grown (unhide HOA) (fun k hk _ => b3.block k hk))
        have HV3 := hide (fulls_below (unhide HVS) (below_nx (below_al wr (.cells cs ndT)) b3))
        clear b3 st
        have HB3a := hide (below_nx (unhide HB3) (below_al w3 (.cells #[.string bk, .string sh, .int .i64 c1, .int .i64 r1, .bool f1, .bool g1, .int .i64 c2, .int .i64 r2, .bool f2, .bool g2, .bool wd] fuT)))
        have HO3a := hide ((unhide HO3).alloc (.cells #[.string bk, .string sh, .int .i64 c1, .int .i64 r1, .bool f1, .bool g1, .int .i64 c2, .int .i64 r2, .bool f2, .bool g2, .bool wd] fuT))
        have HV3a := hide (fulls_below (unhide HV3) (below_al w3 (.cells #[.string bk, .string sh, .int .i64 c1, .int .i64 r1, .bool f1, .bool g1, .int .i64 c2, .int .i64 r2, .bool f2, .bool g2, .bool wd] fuT)))
        have HCN := hide (cells_new w3 fuT #[.string bk, .string sh, .int .i64 c1, .int .i64 r1, .bool f1, .bool g1, .int .i64 c2, .int .i64 r2, .bool f2, .bool g2, .bool wd])
        cases b5 with
        | false =>
          have HR2 : Hid ((nds.take (k + 1)).foldl onceF [] = m) := hide (by rw [unhide HTK, unhide HTK3]; rfl)
          go_wp2
          go_roundw
          case rel => exact ⟨k + 1, m, by go_num, by omega, HR2, HO3a, HB3a⟩
          case measure => simp [intOf]; omega
        | true =>
          go_wp2_with fail
          refine (unhide HFC _ (unhide HV3a)).mono ?_
          rintro e w4 ⟨rfl, b4⟩
          have HB4 := hide (below_nx (unhide HB3a) b4)
          have HO4 := hide (owns_grown (unhide HO3a) (fun k hk _ => b4.block k hk))
          obtain ⟨x0, x1, x2, x3, x4, x5, x6, x7, x8, x9, x10⟩ := cells11x (cells_nx (unhide HCN) b4)
          clear b4
          cases hc with
          | true =>
            have HR2 : Hid ((nds.take (k + 1)).foldl onceF [] = m) := hide (by rw [unhide HTK, unhide HTK3]; rfl)
            clear x0 x1 x2 x3 x4 x5 x6 x7 x8 x9 x10
            go_wp2
            go_roundw
            case rel => exact ⟨k + 1, m, by go_num, by omega, HR2, HO4, HB4⟩
            case measure => simp [intOf]; omega
          | false =>
            have HR2 : Hid ((nds.take (k + 1)).foldl onceF [] = m ++ [X]) := hide (by rw [unhide HTK, unhide HTK3]; rfl)
            have hsz := (unhide HB4).size
            go_wp2_with (at_builtin; refine wpList_append_own _ rfl _ _ 91 rfl w.heap.size fuT i0 zFu 11 88 Tryz.underlying91 hi hz0 hz1 hz2 rfl (by decide) _ _ _ rfl ((unhide HO4).alloc _) ⟨w4.heap.size, 0, none⟩ 1 1 [.string bk, .string sh, .int .i64 c1, .int .i64 r1, .bool f1, .bool g1, .int .i64 c2, .int .i64 r2, .bool f2, .bool g2, .bool wd] rfl rfl (World.news_of_block (heap_alloc_new _ _)) (by simp [Value.oneCell']) (by unfold maxLen; omega) (by omega) (by simp; omega) ?_)
            intro v' w5 hown' hgrow _
            have hlen' : (m ++ [X]).length = m.length + 1 := by rw [List.length_append, List.length_singleton]
            have HO5 : Hid (w5.ownsRow w.heap.size fuT 11 v' (m ++ [X]).length (flatF (m ++ [X]))) := hide (by
              have e : X.cells.toList = [.string bk, .string sh, .int .i64 c1, .int .i64 r1, .bool f1, .bool g1, .int .i64 c2, .int .i64 r2, .bool f2, .bool g2, .bool wd] := unhide HXC
              rw [hlen', unhide HXM, e]
              exact hown')
            have HB5 : Hid (Below w.heap.size w w5) := hide ((below_nx (unhide HB4) (below_al w4 (.cells #[.string bk, .string sh, .int .i64 c1, .int .i64 r1, .bool f1, .bool g1, .int .i64 c2, .int .i64 r2, .bool f2, .bool g2, .bool wd] fuT))).grown hgrow (by simp; omega) (fun j hj => ((unhide HO4).lt j hj).1))
            clear hown' hgrow hlen'
            go_wp2
            go_roundw
            case rel => exact ⟨k + 1, m ++ [X], by go_num, by omega, HR2, HO5, HB5⟩
            case measure => simp [intOf]; omega
      · have hlti : ¬ (k : Int) < (n : Int) := by omega
        have HR1 : Hid (res = m) := hide (by
          have h1 := unhide HM
          rw [List.take_of_length_le (by rw [unhide HNL]; omega)] at h1
          rw [unhide HR0, h1])
        go_wp2
        go_ret
        exact ⟨⟨_, rfl, by rw [unhide HR1]; exact unhide HO⟩, unhide HBW⟩
set_option maxRecDepth 100000 in
set_option maxHeartbeats 2000000 in
theorem refsT_val (a : Option Addr) (cap : Nat) (nds : List Nd) (w : World) (hn : NodesIn w a nds) (hf : TreeFit nds) :
    Calls Tryz.prog 37 #[.slice a nds.length cap] w fun e w' => (∃ v, e = .returned v ∧ FullRow w' w.heap.size v (refsT nds)) ∧ Below w.heap.size w w' := by
  have HS := hide (onceF_val a cap nds w hn hf)
  obtain ⟨n, hnl⟩ : ∃ n, nds.length = n := ⟨_, rfl⟩
  rw [hnl] at HS ⊢
  clear hn hf hnl
  go_enter Tryz.func37, Tryz.ntmps37
  go_wp2_with fail
  refine (unhide HS).mono ?_
  rintro e w2 ⟨⟨v, rfl, ho⟩, b2⟩
  have HO := hide ho
  have HB := hide b2
  clear ho b2
  go_wp2
  go_ret
  exact ⟨⟨_, rfl, unhide HO⟩, unhide HB⟩
end Go.Proofs.YtloamahbghjjgaaGreatDoor
