/- The walk of the reader's put. -/
import Derived.BigQuiet
import Derived.BigRegion
import Derived.Deep.AppendLies
import Derived.Deep.CutBlock
import Derived.Deep.CutRange
import Derived.Deep.DeepFit
import Derived.Deep.MidRow
import Derived.Deep.QuietTactic
import Derived.Deep.RegionHeld3
import Derived.Deep.RegionLaw
import Derived.Deep.WholeRow
import Derived.Great.BuildSlice
import Derived.Laws.Bits64b
import Derived.Laws.CopyOwn
import Derived.Laws.IdiomStrings
import Derived.Laws.OwnMore
import Derived.Laws.Rows
import Derived.Laws.StructEq
import Derived.Laws.Tables
import Derived.Lib.Atoi
import Derived.Lib.AtoiErrMem
import Derived.Lib.BitFns
import Derived.Lib.CutLaws
import Derived.Lib.IndexMore
import Derived.Lib.ItoaMem
import Derived.Lib.ItoaNum
import Derived.Lib.Join
import Derived.Lib.Replace
import Derived.Lib.Walk
import Derived.Shelf.Bits.Mul64
import Derived.Shelf.LaysM
import Derived.Shelf.Small.Bits
import Derived.Shelf.Small.Strs
import Derived.Shelf.Small.Utf8
import Derived.Shelf.Small.Wraps
import Derived.Shelf.Strconv.Atoi
import Derived.Shelf.Strconv.Itoa0
import Derived.Shelf.Strconv.Itoa1
import Derived.Shelf.Strconv.Itoa2
import Derived.Shelf.Strconv.Itoa3
import Derived.Shelf.Strings.AsciiSet
import Derived.Shelf.Strings.Builder1
import Derived.Shelf.Strings.Builder2
import Derived.Shelf.Strings.Count
import Derived.Shelf.Strings.Cut
import Derived.Shelf.Strings.OnBuilder
import Derived.Shelf.Strings.Prefix
import Derived.Shelf.Strings.Replace
import Derived.Shelf.Strings.Runes
import Derived.Shelf.Strings.Search1
import Derived.Shelf.Strings.Search2
import Derived.Shelf.Strings.Search3
import Derived.Shelf.Strings.Shaped
import Derived.Shelf.Strings.Split
import Derived.Shelf.Strings.SplitShaped
import Derived.Shelf.Strings.Trim
import Derived.Shelf.Unicode.DecodeSlow
import Derived.Test.YtloamahbghjjgaaGreatDoorProg
import Derived.Test.YtloamahbghjjgaaGreatDoorRows
import Derived.WalkKit
import Derived.WalkLawsBesides
import Derived.WalkSmall
import Derived.WalkSpells
import Derived.Test.YtloamahbghjjgaaGreatDoorZgAA
import Derived.Test.YtloamahbghjjgaaGreatDoorZgAB
import Derived.Test.YtloamahbghjjgaaGreatDoorZgAC
import Derived.Test.YtloamahbghjjgaaGreatDoorZgAD
import Derived.Test.YtloamahbghjjgaaGreatDoorZgAE
import Derived.Test.YtloamahbghjjgaaGreatDoorZgAF
import Derived.Test.YtloamahbghjjgaaGreatDoorZgAG
import Derived.Test.YtloamahbghjjgaaGreatDoorZgAH
import Derived.Test.YtloamahbghjjgaaGreatDoorZgAI
import Derived.Test.YtloamahbghjjgaaGreatDoorZgAJ
import Derived.Test.YtloamahbghjjgaaGreatDoorZgAK
import Derived.Test.YtloamahbghjjgaaGreatDoorZgAL
import Derived.Test.YtloamahbghjjgaaGreatDoorZgAM
import Derived.Test.YtloamahbghjjgaaGreatDoorZgAN
import Derived.Test.YtloamahbghjjgaaGreatDoorZgAO
namespace Go.Proofs.YtloamahbghjjgaaGreatDoor
open Go.RowKit
variable {X : Nat → Prop}

theorem step_append_own {P : Program} {ops : Array Oper} {o : Oper} {a : Act} {w : World} {K : Act → World → Prop} {Q : Exit → Act → World → Prop} {E : Prop} (hgd : o.guard = none) (s x : Operand) (t : TypeId)
    (ho : o.op = .call { callee := .builtin .append, args := #[s, x], argTypes := #[t, t] })
    (base : Nat) (e : TypeId) (i : TypeInfo) (z : Value) (size bytes : Nat) (ht : P.underlying t = some (.slice e)) (hi : P.info? e = some i) (hz : i.zero = some z)
    (hsize : i.size = size) (hby : i.bytes = bytes) (hzs : z.cells.size = size) (hsz : 0 < size)
    (v : Value) (n : Nat) (xs : List Value) (hs : a.eval s = v) (hown : w.ownsRow base e size v n xs)
    (ad : Addr) (m c : Nat) (news : List Value) (hx : a.eval x = .slice (some ad) m c) (hl : news.length = m * size) (hnews : ∀ j u, news[j]? = some u → w.cell? (ad.add j) = some u) (h1 : ∀ u ∈ news, u.oneCell' = true)
    (h63 : n + m ≤ maxLen) (hbytes : (n + m) * bytes ≤ 140737488355328) (hbase : base ≤ w.heap.size)
    (h : ∀ v' w', w'.ownsRow base e size v' (n + m) (xs ++ news) → w.grownBy w' v.ownBlock → (v' = .slice none 0 0 ↔ v = .slice none 0 0 ∧ m = 0) → K (a.put o.dst v') w') :
    if Region.wanted o (yielded ops a.tmps) = true then Oper.wp P o a w K Q else E := by
  have hw : Region.wanted o (yielded ops a.tmps) = true := by simp [Region.wanted, hgd]
  rw [if_pos hw]
  exact wp_append_own w s x t ho base e i z size bytes ht hi hz hsize hby hzs hsz v n xs hs hown ad m c news hx hl hnews h1 h63 hbytes hbase h
theorem infoNd : (Tryz.prog.info? 55).map (fun i => (i.zero, i.size, i.bytes)) = some (some (.agg #[.int .i64 0, .string ⟨#[]⟩, .int .i64 0, .int .i64 0, .string ⟨#[]⟩, .bool false, .int .i64 0, .string ⟨#[]⟩, .string ⟨#[]⟩, .int .i64 0, .int .i64 0, .bool false, .bool false, .int .i64 0, .int .i64 0, .bool false, .bool false, .bool false, .slice none 0 0]), 19, 184) := by kernel_rfl
theorem infoNs : (Tryz.prog.info? 55).map (·.size) = some 19 := by kernel_rfl
theorem range_cells0 {w : World} {B : Nat} {t : TypeId} {cs : Array Value} (h : CellsAt w B t cs) : w.rangeAt B 0 cs.toList := fun j v hv => by
  rw [Nat.zero_add]; exact cells_c h j v (by simpa using hv)
theorem owns_some {w : World} {B T n s : Nat} {v : Value} {xs : List Value} (h : w.ownsRow B T s v n xs) (hn : 0 < n) : ∃ g cap, v = .slice (some ⟨g, 0, none⟩) n cap := by
  rcases h.2 with ⟨_, h0⟩ | ⟨g, cap, cur, rfl, _⟩
  · omega
  · exact ⟨g, cap, rfl⟩
def IsNd (cs : Array Value) : Prop := cs.size = 19 ∧ ∀ v ∈ cs.toList, v.oneCell' = true
theorem nd_row (n : Nd) (kv : Value) (h : kv.oneCell' = true) : IsNd (n.cells kv) := ⟨rfl, by
  intro v hv
  simp only [Nd.cells, List.mem_cons, List.not_mem_nil, or_false] at hv
  rcases hv with h | h | h | h | h | h | h | h | h | h | h | h | h | h | h | h | h | h | h <;> subst h <;> first | rfl | assumption⟩
theorem kids_cell {w : World} {B : Nat} {kv : Value} {ks : List Int} (h : KidsAt w B kv ks) : kv.oneCell' = true := by
  rcases h.2 with ⟨rfl, _⟩ | ⟨g, cap, cur, rfl, _⟩ <;> rfl
theorem put_fin {R : Nat} {w WW w1 : World} {tv v' : Value} {l : List Tk} {nds : List Nd} {d dp m : Nat} {nd : Nd} {kv : Value} {ps : List Np} (h : RdAt X R w tv l nds d dp m) (hb : Below w.heap.size w WW) (hp1 : ps.map (·.1) = nds)
    (hown0 : w.ownsRow (R + 1) ndT 19 tv nds.length (flatN ps)) (hks : ∀ p ∈ ps, KidsAt w (R + 1) p.2 p.1.kids ∧ ∀ g, p.2.ownBlock = some g → ¬ X g) (hk : KidsAt w (R + 1) kv nd.kids ∧ ∀ g, kv.ownBlock = some g → ¬ X g)
    (hown1 : w1.ownsRow (R + 1) ndT 19 v' (nds.length + 1) (flatN ps ++ (nd.cells kv).toList)) (hgrow : WW.grownBy w1 tv.ownBlock) :
    RdAt X R (w1.setCell ⟨R, 1, none⟩ v') v' l (nds ++ [nd]) d dp m ∧ Frm R w (w1.setCell ⟨R, 1, none⟩ v') := by
  have hR := h.lt
  have hpl : ps.length = nds.length := by rw [← hp1]; simp
  have hown : w.ownsRow (R + 1) ndT 19 tv ps.length (flatN ps) := by rw [hpl]; exact hown0
  have hown' : w1.ownsRow (R + 1) ndT 19 v' (ps.length + 1) (flatN ps ++ (nd.cells kv).toList) := by rw [hpl]; exact hown1
  have hdif : ∀ k, tv.ownBlock = some k → R + 1 ≤ k ∧ ∃ cur, w.heap[k]? = some (.cells cur ndT (0, 0)) := fun k e => ⟨(hown.lt k e).1, owns_type hown e⟩
  have hsame : ∀ k, k < w.heap.size → some k ≠ tv.ownBlock → w1.heap[k]? = w.heap[k]? := fun k hk hn => by
    rw [hgrow.block k (Nat.lt_of_lt_of_le hk hb.size) hn, hb.block k hk]
  have hup : w.heap.size ≤ w1.heap.size := Nat.le_trans hb.size hgrow.size
  have hrow : NodeRowX X ndT w1 (R + 1) v' (nds ++ [nd]) := by
    rw [← hp1]
    exact nodes_step (p := (nd, kv)) (by decide) (owns_grown hown (fun k hk _ => hb.block k hk)) (fun q hq => ⟨kids_below (hks q hq).1 hb, (hks q hq).2⟩) ⟨kids_below hk.1 hb, hk.2⟩ hown' hgrow
  obtain ⟨a, cap, h1, h2, h3, h4⟩ := h.cells
  have hRn : some R ≠ tv.ownBlock := fun e => by have := (hdif R e.symm).1; omega
  have hc1 : CellsAt w1 R rdT #[.slice a l.length cap, tv, .int .i64 (d : Int), .int .i64 (dp : Int), .int .i64 (m : Int)] := by
    unfold CellsAt at h1 ⊢
    rw [hsame R hR hRn]; exact h1
  have hs : (w1.setCell ⟨R, 1, none⟩ v').heap.size = w1.heap.size := by simp [World.setCell]
  refine ⟨⟨⟨a, cap, cells_set hc1 1 v', h2, ?_, h4⟩, ?_, fun x hx => by have := h.lim x hx; omega⟩, ?_⟩
  · refine toks_old h3 h4 (fun k hk => ?_) (by omega)
    rw [heap_setCell_other _ _ _ _ (by show k ≠ R; omega)]
    exact hsame k (by omega) (fun e => by have := (hdif k e.symm).1; omega)
  · obtain ⟨qs, q1, q2, q3⟩ := hrow
    have far : ∀ {T n s : Nat} {v : Value} {xs : List Value}, w1.ownsRow (R + 1) T s v n xs → (w1.setCell ⟨R, 1, none⟩ v').ownsRow (R + 1) T s v n xs := fun {T n s v xs} h =>
      owns_grown h (fun k hk hv => heap_setCell_other _ _ _ _ (by have := (h.lt k hv).1; show k ≠ R; omega))
    exact ⟨qs, q1, far q2, fun p hp => ⟨far (q3 p hp).1, (q3 p hp).2⟩⟩
  · refine ⟨hgrow.os.trans hb.os, hgrow.tape.trans hb.tape, hgrow.output.trans hb.output, by omega, fun k hk hkR hn => ?_⟩
    rw [heap_setCell_other _ _ _ _ (by show k ≠ R; exact hkR)]
    refine hsame k hk (fun e => ?_)
    obtain ⟨e1, cur, e2⟩ := hdif k e.symm
    rcases hn with h | h
    · omega
    · exact h _ _ e2
theorem range_far {w : World} {A R i o : Nat} {cs : List Value} {v : Value} (h : w.rangeAt A o cs) (hA : R < A) : (w.setCell ⟨R, i, none⟩ v).rangeAt A o cs := fun j u hu => by
  rw [World.cell?_of_block (w := w) (heap_setCell_other _ _ _ _ (by show A ≠ R; omega))]; exact h j u hu
set_option maxRecDepth 100000 in
set_option maxHeartbeats 4000000 in
theorem put_val (R : Nat) (w : World) (tv : Value) (l : List Tk) (nds : List Nd) (d dp m : Nat) (nd : Nd) (kv : Value) (h : RdAt X R w tv l nds d dp m) (hk : KidsAt w (R + 1) kv nd.kids ∧ ∀ g, kv.ownBlock = some g → ¬ X g) (hn : nds.length ≤ 10000) :
    Calls Tryz.prog 155 #[.pointer (some ⟨R, 0, none⟩), .agg (nd.cells kv)] w fun e w' => e = .returned (.int .i64 (nds.length : Nat)) ∧ ∃ tv', RdAt X R w' tv' l (nds ++ [nd]) d dp m ∧ Frm R w w' := by
  obtain ⟨i0, hi, hz0, hz1, hz2⟩ := info_parts infoNd
  have HI := hide (nd_row nd kv (kids_cell hk.1)).2
  have hkv : kv.oneCell' = true := kids_cell hk.1
  have hR := h.lt
  obtain ⟨a, cap, hc, hcap, ht, ha⟩ := h.cells
  have HH := hide h
  obtain ⟨ps, hp1, hp2, hp3⟩ := h.row
  have hpl : ps.length = nds.length := by rw [← hp1]; simp
  rw [hpl] at hp2
  clear hpl
  have HK := hide hk
  have H2 := hide hp2
  have H3 := hide hp3
  have H1 := hide hp1
  clear h hk hp1 hp2 hp3
  obtain ⟨kd, op, ⟨v1, v2, v3, v4, v5⟩, ⟨bk, sh, ⟨c1, r1, f1, g1⟩, ⟨c2, r2, f2, g2⟩, wd⟩, ks⟩ := nd
  unfold Nd.cells at HI ⊢
  simp only [] at HI HK ⊢
  obtain ⟨c0, k1, q2, q3, q4⟩ := cells5 (cells_al hc (.cells #[.int .i64 kd, .string op, .int .i64 v1, .int .i64 v2, .string v3, .bool v4, .int .i64 v5, .string bk, .string sh, .int .i64 c1, .int .i64 r1, .bool f1, .bool g1, .int .i64 c2, .int .i64 r2, .bool f2, .bool g2, .bool wd, kv] ndT))
  have f1' := cells_f (cells_al hc (.cells #[.int .i64 kd, .string op, .int .i64 v1, .int .i64 v2, .string v3, .bool v4, .int .i64 v5, .string bk, .string sh, .int .i64 c1, .int .i64 r1, .bool f1, .bool g1, .int .i64 c2, .int .i64 r2, .bool f2, .bool g2, .bool wd, kv] ndT)) 1
  have HB0 := hide (below_al w (.cells #[.int .i64 kd, .string op, .int .i64 v1, .int .i64 v2, .string v3, .bool v4, .int .i64 v5, .string bk, .string sh, .int .i64 c1, .int .i64 r1, .bool f1, .bool g1, .int .i64 c2, .int .i64 r2, .bool f2, .bool g2, .bool wd, kv] ndT))
  have k1w : ((w.alloc (.cells #[.int .i64 kd, .string op, .int .i64 v1, .int .i64 v2, .string v3, .bool v4, .int .i64 v5, .string bk, .string sh, .int .i64 c1, .int .i64 r1, .bool f1, .bool g1, .int .i64 c2, .int .i64 r2, .bool f2, .bool g2, .bool wd, kv] 55)).alloc (.cells #[.int .i64 kd, .string op, .int .i64 v1, .int .i64 v2, .string v3, .bool v4, .int .i64 v5, .string bk, .string sh, .int .i64 c1, .int .i64 r1, .bool f1, .bool g1, .int .i64 c2, .int .i64 r2, .bool f2, .bool g2, .bool wd, kv] 55)).drew.cell? ⟨R, 1, none⟩ = some tv := (cells5 (cells_drew (cells_al (cells_al hc (.cells #[.int .i64 kd, .string op, .int .i64 v1, .int .i64 v2, .string v3, .bool v4, .int .i64 v5, .string bk, .string sh, .int .i64 c1, .int .i64 r1, .bool f1, .bool g1, .int .i64 c2, .int .i64 r2, .bool f2, .bool g2, .bool wd, kv] 55)) (.cells #[.int .i64 kd, .string op, .int .i64 v1, .int .i64 v2, .string v3, .bool v4, .int .i64 v5, .string bk, .string sh, .int .i64 c1, .int .i64 r1, .bool f1, .bool g1, .int .i64 c2, .int .i64 r2, .bool f2, .bool g2, .bool wd, kv] 55)))).2.1
  have f1w : ((w.alloc (.cells #[.int .i64 kd, .string op, .int .i64 v1, .int .i64 v2, .string v3, .bool v4, .int .i64 v5, .string bk, .string sh, .int .i64 c1, .int .i64 r1, .bool f1, .bool g1, .int .i64 c2, .int .i64 r2, .bool f2, .bool g2, .bool wd, kv] 55)).alloc (.cells #[.int .i64 kd, .string op, .int .i64 v1, .int .i64 v2, .string v3, .bool v4, .int .i64 v5, .string bk, .string sh, .int .i64 c1, .int .i64 r1, .bool f1, .bool g1, .int .i64 c2, .int .i64 r2, .bool f2, .bool g2, .bool wd, kv] 55)).drew.frozen? ⟨R, 1, none⟩ = false := cells_f (cells_drew (cells_al (cells_al hc (.cells #[.int .i64 kd, .string op, .int .i64 v1, .int .i64 v2, .string v3, .bool v4, .int .i64 v5, .string bk, .string sh, .int .i64 c1, .int .i64 r1, .bool f1, .bool g1, .int .i64 c2, .int .i64 r2, .bool f2, .bool g2, .bool wd, kv] 55)) (.cells #[.int .i64 kd, .string op, .int .i64 v1, .int .i64 v2, .string v3, .bool v4, .int .i64 v5, .string bk, .string sh, .int .i64 c1, .int .i64 r1, .bool f1, .bool g1, .int .i64 c2, .int .i64 r2, .bool f2, .bool g2, .bool wd, kv] 55))) 1
  have hRw : R < ((w.alloc (.cells #[.int .i64 kd, .string op, .int .i64 v1, .int .i64 v2, .string v3, .bool v4, .int .i64 v5, .string bk, .string sh, .int .i64 c1, .int .i64 r1, .bool f1, .bool g1, .int .i64 c2, .int .i64 r2, .bool f2, .bool g2, .bool wd, kv] 55)).alloc (.cells #[.int .i64 kd, .string op, .int .i64 v1, .int .i64 v2, .string v3, .bool v4, .int .i64 v5, .string bk, .string sh, .int .i64 c1, .int .i64 r1, .bool f1, .bool g1, .int .i64 c2, .int .i64 r2, .bool f2, .bool g2, .bool wd, kv] 55)).drew.heap.size := by simp; omega
  have K1 := hide k1w
  have F1 := hide f1w
  have RW := hide hRw
  clear k1w f1w hRw
  have HNE : some R ≠ tv.ownBlock := fun e => by have := ((unhide H2).lt R e.symm).1; omega
  have NE := hide HNE
  have SB := hide (show ((w.alloc (.cells #[.int .i64 kd, .string op, .int .i64 v1, .int .i64 v2, .string v3, .bool v4, .int .i64 v5, .string bk, .string sh, .int .i64 c1, .int .i64 r1, .bool f1, .bool g1, .int .i64 c2, .int .i64 r2, .bool f2, .bool g2, .bool wd, kv] 55)).alloc (.cells #[.int .i64 kd, .string op, .int .i64 v1, .int .i64 v2, .string v3, .bool v4, .int .i64 v5, .string bk, .string sh, .int .i64 c1, .int .i64 r1, .bool f1, .bool g1, .int .i64 c2, .int .i64 r2, .bool f2, .bool g2, .bool wd, kv] 55)).drew.rangeAt w.heap.size 0 [.int .i64 kd, .string op, .int .i64 v1, .int .i64 v2, .string v3, .bool v4, .int .i64 v5, .string bk, .string sh, .int .i64 c1, .int .i64 r1, .bool f1, .bool g1, .int .i64 c2, .int .i64 r2, .bool f2, .bool g2, .bool wd, kv] from range_cells0 (cells_drew (cells_al (cells_new w ndT #[.int .i64 kd, .string op, .int .i64 v1, .int .i64 v2, .string v3, .bool v4, .int .i64 v5, .string bk, .string sh, .int .i64 c1, .int .i64 r1, .bool f1, .bool g1, .int .i64 c2, .int .i64 r2, .bool f2, .bool g2, .bool wd, kv]) (.cells #[.int .i64 kd, .string op, .int .i64 v1, .int .i64 v2, .string v3, .bool v4, .int .i64 v5, .string bk, .string sh, .int .i64 c1, .int .i64 r1, .bool f1, .bool g1, .int .i64 c2, .int .i64 r2, .bool f2, .bool g2, .bool wd, kv] 55))))
  have NA := hide (show some w.heap.size ≠ tv.ownBlock from fun e => by have := ((unhide H2).lt _ e.symm).2; omega)
  clear hc ht ha hcap c0 q2 q3 q4 HNE hkv HB0
  go_enter Tryz.func155, Tryz.ntmps155
  go_upto_region 1 with fail
  -- the region, by hand
  refine wp_region_held_drew (S := fun w' => w'.rangeAt w.heap.size 0 [.int .i64 kd, .string op, .int .i64 v1, .int .i64 v2, .string v3, .bool v4, .int .i64 v5, .string bk, .string sh, .int .i64 c1, .int .i64 r1, .bool f1, .bool g1, .int .i64 c2, .int .i64 r2, .bool f2, .bool g2, .bool wd, kv]) (by kernel_rfl) (range_cells0 (cells_drew (cells_new w ndT #[.int .i64 kd, .string op, .int .i64 v1, .int .i64 v2, .string v3, .bool v4, .int .i64 v5, .string bk, .string sh, .int .i64 c1, .int .i64 r1, .bool f1, .bool g1, .int .i64 c2, .int .i64 r2, .bool f2, .bool g2, .bool wd, kv]))) (fun hS => ?_)
  refine wpAnyH_take (i := 0) (oi := ({ dst := some 5, op := Op.move (Operand.tmp 0), type := 80, pos := "parse.go:149", after := #[], guard := none } : Oper)) (v := Value.pointer (some ⟨R, 0, none⟩)) rfl (by kernel_rfl) (by kernel_rfl) (by kernel_rfl) (fun _ _ _ h => h) (Or.inl ⟨by rfl, fun w hSw => by go_simp⟩) hS ?_
  refine wpAnyH_take (i := 1) (oi := ({ dst := some 6, op := Op.move (Operand.tmp 0), type := 80, pos := "parse.go:149", after := #[], guard := none } : Oper)) (v := Value.pointer (some ⟨R, 0, none⟩)) rfl (by kernel_rfl) (by kernel_rfl) (by kernel_rfl) (fun _ _ _ h => h) (Or.inl ⟨by rfl, fun w hSw => by go_simp⟩) hS ?_
  refine wpAnyH_take (i := 2) (oi := ({ dst := some 7, op := Op.nilCheck (Operand.tmp 6), type := 0, pos := "parse.go:149", after := #[{ on := 1, ground := Ground.data }], guard := none } : Oper)) (v := Value.pointer (some ⟨R, 0, none⟩)) rfl (by kernel_rfl) (by kernel_rfl) (by kernel_rfl) (fun _ _ _ h => h) (Or.inl ⟨by rfl, fun w hSw => by go_simp⟩) hS ?_
  refine wpAnyH_take (i := 3) (oi := ({ dst := some 8, op := Op.fieldAddr 82 (Operand.tmp 7) 1, type := 0, pos := "parse.go:149", after := #[{ on := 2, ground := Ground.data }], guard := none } : Oper)) (v := Value.pointer (some ⟨R, 1, none⟩)) rfl (by kernel_rfl) (by kernel_rfl) (by kernel_rfl) (fun _ _ _ h => h) (Or.inl ⟨by rfl, fun w hSw => by go_simp⟩) hS ?_
  refine wpAnyH_take (i := 5) (oi := ({ dst := some 10, op := Op.load 55 (Operand.tmp 3), type := 55, pos := "parse.go:149", after := #[], guard := none } : Oper)) (v := Value.agg #[.int .i64 kd, .string op, .int .i64 v1, .int .i64 v2, .string v3, .bool v4, .int .i64 v5, .string bk, .string sh, .int .i64 c1, .int .i64 r1, .bool f1, .bool g1, .int .i64 c2, .int .i64 r2, .bool f2, .bool g2, .bool wd, kv]) rfl (by kernel_rfl) (by kernel_rfl) (by kernel_rfl) (fun _ _ _ h => h) (yieldsIf_load_mid (by rfl) 55 _ rfl w.heap.size 0 rfl [.int .i64 kd, .string op, .int .i64 v1, .int .i64 v2, .string v3, .bool v4, .int .i64 v5, .string bk, .string sh, .int .i64 c1, .int .i64 r1, .bool f1, .bool g1, .int .i64 c2, .int .i64 r2, .bool f2, .bool g2, .bool wd, kv] _ (fun _ h => h) Tryz.underlying55 rfl infoNs) hS ?_
  have hS3 : ((w.alloc (.cells #[.int .i64 kd, .string op, .int .i64 v1, .int .i64 v2, .string v3, .bool v4, .int .i64 v5, .string bk, .string sh, .int .i64 c1, .int .i64 r1, .bool f1, .bool g1, .int .i64 c2, .int .i64 r2, .bool f2, .bool g2, .bool wd, kv] 55)).alloc (.cells #[.int .i64 kd, .string op, .int .i64 v1, .int .i64 v2, .string v3, .bool v4, .int .i64 v5, .string bk, .string sh, .int .i64 c1, .int .i64 r1, .bool f1, .bool g1, .int .i64 c2, .int .i64 r2, .bool f2, .bool g2, .bool wd, kv] 55)).drew.rangeAt w.heap.size 0 [.int .i64 kd, .string op, .int .i64 v1, .int .i64 v2, .string v3, .bool v4, .int .i64 v5, .string bk, .string sh, .int .i64 c1, .int .i64 r1, .bool f1, .bool g1, .int .i64 c2, .int .i64 r2, .bool f2, .bool g2, .bool wd, kv] := unhide SB
  refine wpAnyH_ready (rs := [4, 6]) (by kernel_rfl) (by simp) ?_
  refine AllReadyH.cons (o := ({ dst := some 9, op := Op.load 23 (Operand.tmp 8), type := 23, pos := "parse.go:149", after := #[{ on := 3, ground := Ground.data }], guard := none } : Oper)) rfl (fun K hK => ?_) (AllReadyH.cons (o := ({ dst := some 11, op := Op.buildSlice 23 1 #[(0, Operand.tmp 10)], type := 23, pos := "parse.go:149", after := #[{ on := 5, ground := Ground.data }], guard := none } : Oper)) rfl (fun K hK => ?_) AllReadyH.nil)
  · go_simp
    refine hK.out _ _ hS (fun _ => ?_)
    clear hK K
    refine wpAnyH_ready (rs := [6]) (by kernel_rfl) (by simp) ?_
    refine AllReadyH.cons (o := ({ dst := some 11, op := Op.buildSlice 23 1 #[(0, Operand.tmp 10)], type := 23, pos := "parse.go:149", after := #[{ on := 5, ground := Ground.data }], guard := none } : Oper)) rfl (fun K hK => ?_) AllReadyH.nil
    go_simp
    refine hK.out _ _ hS3 (fun _ => ?_)
    clear hK K hS3
    refine wpAnyH_ready (rs := [7]) (by kernel_rfl) (by simp) ?_
    refine AllReadyH.cons (o := ({ dst := some 12, op := Op.call { callee := Callee.builtin Builtin.append, args := #[Operand.tmp 9, Operand.tmp 11], argTypes := #[23, 23] }, type := 23, pos := "parse.go:149", after := #[{ on := 4, ground := Ground.data }, { on := 6, ground := Ground.data }], guard := none } : Oper)) rfl (fun K hK => ?_) AllReadyH.nil
    refine step_append_own rfl (.tmp 9) (.tmp 11) 23 rfl (R + 1) ndT i0 (.agg #[.int .i64 0, .string ⟨#[]⟩, .int .i64 0, .int .i64 0, .string ⟨#[]⟩, .bool false, .int .i64 0, .string ⟨#[]⟩, .string ⟨#[]⟩, .int .i64 0, .int .i64 0, .bool false, .bool false, .int .i64 0, .int .i64 0, .bool false, .bool false, .bool false, .slice none 0 0]) 19 184 Tryz.underlying23 hi hz0 hz1 hz2 rfl (by decide) tv nds.length (flatN ps) rfl (((unhide H2).alloc _).alloc _).drew ⟨w.heap.size + 1, 0, none⟩ 1 1 [.int .i64 kd, .string op, .int .i64 v1, .int .i64 v2, .string v3, .bool v4, .int .i64 v5, .string bk, .string sh, .int .i64 c1, .int .i64 r1, .bool f1, .bool g1, .int .i64 c2, .int .i64 r2, .bool f2, .bool g2, .bool wd, kv] rfl rfl (World.news_of_block (heap_alloc2_new _ _ _)) (unhide HI) (by unfold maxLen; omega) (by omega) (by simp; omega) ?_
    intro v' w1 hown' hgrow _
    obtain ⟨g', cap', rfl⟩ := owns_some hown' (by omega)
    have k3 : w1.cell? ⟨R, 1, none⟩ = some tv := hgrow.cell (unhide K1) (unhide NE)
    have f3 : w1.frozen? ⟨R, 1, none⟩ = false := (World.frozen?_of_block (hgrow.block R (unhide RW) (unhide NE))).trans (unhide F1)
    have HO := hide hown'
    have HG := hide hgrow
    have hS2 : w1.rangeAt w.heap.size 0 [.int .i64 kd, .string op, .int .i64 v1, .int .i64 v2, .string v3, .bool v4, .int .i64 v5, .string bk, .string sh, .int .i64 c1, .int .i64 r1, .bool f1, .bool g1, .int .i64 c2, .int .i64 r2, .bool f2, .bool g2, .bool wd, kv] := fun j v hv => hgrow.cell (unhide SB j v hv) (unhide NA)
    clear hown' hgrow
    refine hK.out _ _ hS2 (fun _ => ?_)
    clear hK K hS
    refine wpAnyH_take (i := 8) (oi := ({ dst := some 13, op := Op.nilCheck (Operand.tmp 5), type := 0, pos := "parse.go:149", after := #[{ on := 0, ground := Ground.data }, { on := 0, ground := Ground.phase }, { on := 1, ground := Ground.phase }, { on := 2, ground := Ground.phase }, { on := 3, ground := Ground.phase }, { on := 4, ground := Ground.phase }, { on := 5, ground := Ground.phase }, { on := 6, ground := Ground.phase }, { on := 7, ground := Ground.phase }], guard := none } : Oper)) (v := Value.pointer (some ⟨R, 0, none⟩)) rfl (by kernel_rfl) (by kernel_rfl) (by kernel_rfl) (fun _ _ _ h => h) (Or.inl ⟨by rfl, fun w hSw => by go_simp⟩) hS2 ?_
    refine wpAnyH_take (i := 9) (oi := ({ dst := some 14, op := Op.fieldAddr 82 (Operand.tmp 13) 1, type := 0, pos := "parse.go:149", after := #[{ on := 8, ground := Ground.data }, { on := 0, ground := Ground.phase }, { on := 1, ground := Ground.phase }, { on := 2, ground := Ground.phase }, { on := 3, ground := Ground.phase }, { on := 4, ground := Ground.phase }, { on := 5, ground := Ground.phase }, { on := 6, ground := Ground.phase }, { on := 7, ground := Ground.phase }], guard := none } : Oper)) (v := Value.pointer (some ⟨R, 1, none⟩)) rfl (by kernel_rfl) (by kernel_rfl) (by kernel_rfl) (fun _ _ _ h => h) (Or.inl ⟨by rfl, fun w hSw => by go_simp⟩) hS2 ?_
    refine wpAnyH_ready (rs := [10]) (by kernel_rfl) (by simp) ?_
    refine AllReadyH.cons (o := ({ dst := none, op := Op.store 23 (Operand.tmp 14) (Operand.tmp 12), type := 0, pos := "parse.go:149", after := #[{ on := 9, ground := Ground.data }, { on := 7, ground := Ground.data }, { on := 7, ground := Ground.chain }, { on := 0, ground := Ground.phase }, { on := 1, ground := Ground.phase }, { on := 2, ground := Ground.phase }, { on := 3, ground := Ground.phase }, { on := 4, ground := Ground.phase }, { on := 5, ground := Ground.phase }, { on := 6, ground := Ground.phase }, { on := 7, ground := Ground.phase }], guard := none } : Oper)) rfl (fun K hK => ?_) AllReadyH.nil
    go_simp
    refine hK.out _ _ (range_far hS2 (by omega)) (fun _ => ?_)
    clear hK K
    refine wpAnyH_done (by kernel_rfl) ?_ _
    have kk := World.cell?_setCell_same' w1 ⟨R, 1, none⟩ (.slice (some ⟨g', 0, none⟩) (nds.length + 1) cap') (by rw [k3]; rfl)
    go_wp2
    refine bodyPost_ret (v := .int .i64 (nds.length : Nat)) (results_t1 rfl _ _ _ rfl) rfl ⟨rfl, .slice (some ⟨g', 0, none⟩) (nds.length + 1) cap', ?_⟩
    exact put_fin (nd := ⟨kd, op, ⟨v1, v2, v3, v4, v5⟩, ⟨bk, sh, ⟨c1, r1, f1, g1⟩, ⟨c2, r2, f2, g2⟩, wd⟩, ks⟩) (kv := kv) (unhide HH) (below_al2 _ _ _).drew (unhide H1) (unhide H2) (unhide H3) (unhide HK) (unhide HO) (unhide HG)
  · go_simp
    refine hK.out _ _ hS3 (fun _ => ?_)
    clear hK K
    refine wpAnyH_ready (rs := [4]) (by kernel_rfl) (by simp) ?_
    refine AllReadyH.cons (o := ({ dst := some 9, op := Op.load 23 (Operand.tmp 8), type := 23, pos := "parse.go:149", after := #[{ on := 3, ground := Ground.data }], guard := none } : Oper)) rfl (fun K hK => ?_) AllReadyH.nil
    go_simp
    refine hK.out _ _ hS3 (fun _ => ?_)
    clear hK K hS3
    refine wpAnyH_ready (rs := [7]) (by kernel_rfl) (by simp) ?_
    refine AllReadyH.cons (o := ({ dst := some 12, op := Op.call { callee := Callee.builtin Builtin.append, args := #[Operand.tmp 9, Operand.tmp 11], argTypes := #[23, 23] }, type := 23, pos := "parse.go:149", after := #[{ on := 4, ground := Ground.data }, { on := 6, ground := Ground.data }], guard := none } : Oper)) rfl (fun K hK => ?_) AllReadyH.nil
    refine step_append_own rfl (.tmp 9) (.tmp 11) 23 rfl (R + 1) ndT i0 (.agg #[.int .i64 0, .string ⟨#[]⟩, .int .i64 0, .int .i64 0, .string ⟨#[]⟩, .bool false, .int .i64 0, .string ⟨#[]⟩, .string ⟨#[]⟩, .int .i64 0, .int .i64 0, .bool false, .bool false, .int .i64 0, .int .i64 0, .bool false, .bool false, .bool false, .slice none 0 0]) 19 184 Tryz.underlying23 hi hz0 hz1 hz2 rfl (by decide) tv nds.length (flatN ps) rfl (((unhide H2).alloc _).alloc _).drew ⟨w.heap.size + 1, 0, none⟩ 1 1 [.int .i64 kd, .string op, .int .i64 v1, .int .i64 v2, .string v3, .bool v4, .int .i64 v5, .string bk, .string sh, .int .i64 c1, .int .i64 r1, .bool f1, .bool g1, .int .i64 c2, .int .i64 r2, .bool f2, .bool g2, .bool wd, kv] rfl rfl (World.news_of_block (heap_alloc2_new _ _ _)) (unhide HI) (by unfold maxLen; omega) (by omega) (by simp; omega) ?_
    intro v' w1 hown' hgrow _
    obtain ⟨g', cap', rfl⟩ := owns_some hown' (by omega)
    have k3 : w1.cell? ⟨R, 1, none⟩ = some tv := hgrow.cell (unhide K1) (unhide NE)
    have f3 : w1.frozen? ⟨R, 1, none⟩ = false := (World.frozen?_of_block (hgrow.block R (unhide RW) (unhide NE))).trans (unhide F1)
    have HO := hide hown'
    have HG := hide hgrow
    have hS2 : w1.rangeAt w.heap.size 0 [.int .i64 kd, .string op, .int .i64 v1, .int .i64 v2, .string v3, .bool v4, .int .i64 v5, .string bk, .string sh, .int .i64 c1, .int .i64 r1, .bool f1, .bool g1, .int .i64 c2, .int .i64 r2, .bool f2, .bool g2, .bool wd, kv] := fun j v hv => hgrow.cell (unhide SB j v hv) (unhide NA)
    clear hown' hgrow
    refine hK.out _ _ hS2 (fun _ => ?_)
    clear hK K hS
    refine wpAnyH_take (i := 8) (oi := ({ dst := some 13, op := Op.nilCheck (Operand.tmp 5), type := 0, pos := "parse.go:149", after := #[{ on := 0, ground := Ground.data }, { on := 0, ground := Ground.phase }, { on := 1, ground := Ground.phase }, { on := 2, ground := Ground.phase }, { on := 3, ground := Ground.phase }, { on := 4, ground := Ground.phase }, { on := 5, ground := Ground.phase }, { on := 6, ground := Ground.phase }, { on := 7, ground := Ground.phase }], guard := none } : Oper)) (v := Value.pointer (some ⟨R, 0, none⟩)) rfl (by kernel_rfl) (by kernel_rfl) (by kernel_rfl) (fun _ _ _ h => h) (Or.inl ⟨by rfl, fun w hSw => by go_simp⟩) hS2 ?_
    refine wpAnyH_take (i := 9) (oi := ({ dst := some 14, op := Op.fieldAddr 82 (Operand.tmp 13) 1, type := 0, pos := "parse.go:149", after := #[{ on := 8, ground := Ground.data }, { on := 0, ground := Ground.phase }, { on := 1, ground := Ground.phase }, { on := 2, ground := Ground.phase }, { on := 3, ground := Ground.phase }, { on := 4, ground := Ground.phase }, { on := 5, ground := Ground.phase }, { on := 6, ground := Ground.phase }, { on := 7, ground := Ground.phase }], guard := none } : Oper)) (v := Value.pointer (some ⟨R, 1, none⟩)) rfl (by kernel_rfl) (by kernel_rfl) (by kernel_rfl) (fun _ _ _ h => h) (Or.inl ⟨by rfl, fun w hSw => by go_simp⟩) hS2 ?_
    refine wpAnyH_ready (rs := [10]) (by kernel_rfl) (by simp) ?_
    refine AllReadyH.cons (o := ({ dst := none, op := Op.store 23 (Operand.tmp 14) (Operand.tmp 12), type := 0, pos := "parse.go:149", after := #[{ on := 9, ground := Ground.data }, { on := 7, ground := Ground.data }, { on := 7, ground := Ground.chain }, { on := 0, ground := Ground.phase }, { on := 1, ground := Ground.phase }, { on := 2, ground := Ground.phase }, { on := 3, ground := Ground.phase }, { on := 4, ground := Ground.phase }, { on := 5, ground := Ground.phase }, { on := 6, ground := Ground.phase }, { on := 7, ground := Ground.phase }], guard := none } : Oper)) rfl (fun K hK => ?_) AllReadyH.nil
    go_simp
    refine hK.out _ _ (range_far hS2 (by omega)) (fun _ => ?_)
    clear hK K
    refine wpAnyH_done (by kernel_rfl) ?_ _
    have kk := World.cell?_setCell_same' w1 ⟨R, 1, none⟩ (.slice (some ⟨g', 0, none⟩) (nds.length + 1) cap') (by rw [k3]; rfl)
    go_wp2
    refine bodyPost_ret (v := .int .i64 (nds.length : Nat)) (results_t1 rfl _ _ _ rfl) rfl ⟨rfl, .slice (some ⟨g', 0, none⟩) (nds.length + 1) cap', ?_⟩
    exact put_fin (nd := ⟨kd, op, ⟨v1, v2, v3, v4, v5⟩, ⟨bk, sh, ⟨c1, r1, f1, g1⟩, ⟨c2, r2, f2, g2⟩, wd⟩, ks⟩) (kv := kv) (unhide HH) (below_al2 _ _ _).drew (unhide H1) (unhide H2) (unhide H3) (unhide HK) (unhide HO) (unhide HG)
end Go.Proofs.YtloamahbghjjgaaGreatDoor

namespace Go.Proofs.YtloamahbghjjgaaGreatDoor
open Go.RowKit
variable {X : Nat → Prop}

structure Fit (l : List Tk) (nds : List Nd) (d dp m : Nat) : Prop where
  text : ∀ t ∈ l, t.text.size ≤ 1000
  nodes : nds.length + l.length ≤ 3000
  deep : d + l.length ≤ 3000
  dp : dp ≤ 10000
  most : m ≤ 10000
def RdPost (X : Nat → Prop) (R : Nat) (nds : List Nd) (d dp m : Nat) (w : World) (o : Rs) (e : Ending) (w' : World) : Prop :=
  match o with
  | none => e = .panicked noForm ∧ Frm R w w'
  | some (s, r) => e = .returned (.int .i64 ((nds.length + s.size - 1 : Nat) : Int)) ∧ Frm R w w' ∧ ∃ tv', RdAt X R w' tv' r (nds ++ s.emit nds.length) d (max dp (d + s.nest)) (max m s.most)
def ArPost (X : Nat → Prop) (R : Nat) (nds : List Nd) (d dp m : Nat) (w : World) (o : Rs) (e : Ending) (w' : World) : Prop :=
  match o with
  | none => e = .panicked noForm ∧ Frm R w w'
  | some (s, r) => ∃ kv, e = .returned kv ∧ (KidsAt w' (R + 1) kv ((s.kidsL nds.length).map fun k : Nat => (k : Int)) ∧ ∀ g, kv.ownBlock = some g → ¬ X g) ∧ Frm R w w' ∧ ∃ tv', RdAt X R w' tv' r (nds ++ s.emit nds.length) (d + 1) (max dp (d + s.nest)) (max m s.most)
def RdOk (f : FuncId) (args : List Value) (o : Rs) (l : List Tk) : Prop :=
  ∀ (X : Nat → Prop) (R : Nat) (w : World) (tv : Value) (nds : List Nd) (d dp m : Nat), RdAt X R w tv l nds d dp m → Fit l nds d dp m →
    Calls Tryz.prog f (Value.pointer (some ⟨R, 0, none⟩) :: args).toArray w (RdPost X R nds d dp m w o)
theorem fit_next {l r : List Tk} {nds : List Nd} {d dp m k : Nat} {s : Syn} (h : Fit l nds d dp m) (hl : l = s.toks ++ r) (hs : s.wf k) : Fit r (nds ++ s.emit nds.length) d (max dp (d + s.nest)) (max m s.most) := by
  have h1 := size_toks s
  have h2 := most_toks s
  have h3 := nest_toks hs
  have hn := h.nodes
  have hd := h.deep
  have hp := h.dp
  have hm := h.most
  have he : l.length = s.toks.length + r.length := by rw [hl, List.length_append]
  refine ⟨fun t ht => h.text t (by rw [hl]; exact List.mem_append_right _ ht), ?_, by omega, by omega, by omega⟩
  rw [List.length_append, emit_len]
  omega
theorem fit_tail {t : Tk} {l : List Tk} {nds : List Nd} {d dp m : Nat} (h : Fit (t :: l) nds d dp m) : Fit l nds d dp m := by
  have hn := h.nodes
  have hd := h.deep
  rw [List.length_cons] at hn hd
  exact ⟨fun u hu => h.text u (List.mem_cons_of_mem _ hu), by omega, by omega, h.dp, h.most⟩
set_option maxHeartbeats 1000000 in
theorem formula_ok (l : List Tk) (h : RdOk 96 [.int .i64 1] (rd (.chain 1) l) l) : RdOk 60 [] (rd (.chain 1) l) l := by
  intro X R w tv nds d dp m hr hf
  have HC := hide (h X R w tv nds d dp m hr hf)
  clear h hr hf
  simp only [List.toArray] at HC
  unfold RdPost at HC ⊢
  cases ho : rd (.chain 1) l with
  | none =>
    rw [ho] at HC
    clear ho
    go_enter Tryz.func60, Tryz.ntmps60
    go_wp2_with fail
    refine (unhide HC).mono ?_
    rintro e w1 ⟨rfl, hf⟩
    go_wp2
    exact ⟨rfl, rfl, hf⟩
  | some p =>
    obtain ⟨s, r⟩ := p
    rw [ho] at HC
    clear ho
    go_enter Tryz.func60, Tryz.ntmps60
    go_wp2_with fail
    refine (unhide HC).mono ?_
    rintro e w1 ⟨rfl, hf, hx⟩
    have HX := hide hx
    clear hx
    go_wp2
    exact bodyPost_ret (v := .int .i64 ((nds.length + s.size - 1 : Nat) : Int)) (results_t1 rfl _ _ _ rfl) rfl ⟨rfl, hf, unhide HX⟩
end Go.Proofs.YtloamahbghjjgaaGreatDoor

namespace Go.Proofs.YtloamahbghjjgaaGreatDoor
open Go.RowKit
variable {X : Nat → Prop}

def restLen : Option Value → Nat
  | some (.slice _ n _) => n
  | _ => 0
theorem rest_len {R : Nat} {w : World} {tv : Value} {l : List Tk} {nds : List Nd} {d dp m : Nat} (h : RdAt X R w tv l nds d dp m) : restLen (w.cell? ⟨R, 0, none⟩) = l.length := by
  obtain ⟨a, cap, h1, _⟩ := h.cells
  rw [(cells5 h1).1]; rfl
theorem RdAt.cast {R : Nat} {w : World} {tv : Value} {l : List Tk} {nds nds' : List Nd} {d dp m dp' m' : Nat} (h : RdAt X R w tv l nds d dp m) (e1 : nds = nds') (e2 : dp = dp') (e3 : m = m') : RdAt X R w tv l nds' d dp' m' := by
  subst e1 e2 e3; exact h
theorem bind_line (s : ByteArray) (T : Tk) (h : s = opS T) (w : World) : Calls Tryz.prog 119 #[.string s] w fun e w' => e = .returned (.int .i64 (lineT T : Nat)) ∧ w' = w := by
  have := binding_val s w
  rw [h, opS_list] at this
  rw [h]; exact this
structure ChAt (X : Nat → Prop) (k : Nat) (l : List Tk) (O : Rs) (R : Nat) (nds : List Nd) (d dp m : Nat) (w0 : World) (a : Syn) (li : List Tk) (w : World) : Prop where
  all : O = rd (.tail k a) li
  toks : l = a.toks ++ li
  wf : a.wf k
  frm : Frm R w0 w
  at_ : ∃ tv, RdAt X R w tv li (nds ++ a.emit nds.length) d (max dp (d + a.nest)) (max m a.most)
theorem ChAt.step {k : Nat} {l : List Tk} {O : Rs} {R : Nat} {nds : List Nd} {d dp m : Nat} {w0 w w' : World} {a b : Syn} {t : Tk} {l2 l3 : List Tk} {tv : Value} (h : ChAt X k l O R nds d dp m w0 a (t :: l2) w) (ht : lineT t = k) (h1 : 1 ≤ k) (h5 : k ≤ 5)
    (hb : rd (.chain (k + 1)) l2 = some (b, l3)) (hf : Frm R w w')
    (hr : RdAt X R w' tv l3 (((nds ++ a.emit nds.length) ++ b.emit (nds ++ a.emit nds.length).length) ++ [binN t (nds.length + a.size - 1) ((nds ++ a.emit nds.length).length + b.size - 1)]) d (max (max dp (d + a.nest)) (d + b.nest)) (max (max m a.most) b.most)) :
    ChAt X k l O R nds d dp m w0 (.bin a t b) l3 w' := by
  refine ⟨?_, ?_, ?_, h.frm.trans hf, tv, hr.cast ?_ ?_ ?_⟩
  · rw [h.all, rd_tail, if_pos ht, hb]
  · have := rd_toks hb
    simp only [Md.left, List.nil_append] at this
    rw [h.toks, this]; simp [Syn.toks]
  · have hw := rd_wf hb (by simp [Md.ok])
    simp only [Md.lev] at hw
    rw [Nat.min_eq_left (by omega)] at hw
    subst ht
    exact ⟨Nat.le_refl _, h1, h.wf, hw⟩
  · rw [List.length_append, emit_len]
    simp [Syn.emit]
  · simp only [Syn.nest]; omega
  · simp only [Syn.most]; omega
theorem ChAt.stop {k : Nat} {l : List Tk} {O : Rs} {R : Nat} {nds : List Nd} {d dp m : Nat} {w0 w : World} {a : Syn} {li : List Tk} (h : ChAt X k l O R nds d dp m w0 a li w) (hl : lineT (headT li) ≠ k) : O = some (a, li) := by
  rw [h.all]
  cases li with
  | nil => rfl
  | cons t l2 =>
    have hl : lineT t ≠ k := hl
    rw [rd_tail, if_neg hl]
theorem ChAt.none {k : Nat} {l : List Tk} {O : Rs} {R : Nat} {nds : List Nd} {d dp m : Nat} {w0 w : World} {a : Syn} {t : Tk} {l2 : List Tk} (h : ChAt X k l O R nds d dp m w0 a (t :: l2) w) (ht : lineT t = k) (hb : rd (.chain (k + 1)) l2 = none) : O = none := by
  rw [h.all, rd_tail, if_pos ht, hb]
theorem ChAt.fit {k : Nat} {l : List Tk} {O : Rs} {R : Nat} {nds : List Nd} {d dp m : Nat} {w0 w : World} {a : Syn} {li : List Tk} (h : ChAt X k l O R nds d dp m w0 a li w) (hf : Fit l nds d dp m) : Fit li (nds ++ a.emit nds.length) d (max dp (d + a.nest)) (max m a.most) := fit_next hf h.toks h.wf
theorem opS_noT : lineT noT = 0 := by decide
set_option maxRecDepth 100000 in
set_option maxHeartbeats 4000000 in
theorem chain_top (l : List Tk) (h : RdOk 152 [] (rd .signed l) l) : RdOk 96 [.int .i64 6] (rd (.chain 6) l) l := by
  intro X R w tv nds d dp m hr hf
  rw [rd_chain, if_pos (by omega)]
  have HC := hide (h X R w tv nds d dp m hr hf)
  clear h hr hf
  simp only [List.toArray] at HC
  unfold RdPost at HC ⊢
  cases ho : rd .signed l with
  | none =>
    rw [ho] at HC
    clear ho
    go_enter Tryz.func96, Tryz.ntmps96
    go_wp2_with fail
    refine (unhide HC).mono ?_
    rintro e w1 ⟨rfl, hf⟩
    go_wp2
    exact ⟨rfl, rfl, hf⟩
  | some p =>
    obtain ⟨s, r⟩ := p
    rw [ho] at HC
    clear ho
    go_enter Tryz.func96, Tryz.ntmps96
    go_wp2_with fail
    refine (unhide HC).mono ?_
    rintro e w1 ⟨rfl, hf, hx⟩
    have HX := hide hx
    clear hx
    go_wp2
    exact bodyPost_ret (v := .int .i64 ((nds.length + s.size - 1 : Nat) : Int)) (results_t1 rfl _ _ _ rfl) rfl ⟨rfl, hf, unhide HX⟩
set_option maxRecDepth 100000 in
set_option maxHeartbeats 4000000 in
theorem chain_low (k : Nat) (h1 : 1 ≤ k) (h5 : k ≤ 5) (l : List Tk) (h : ∀ l', l'.length ≤ l.length → RdOk 96 [.int .i64 ((k + 1 : Nat) : Int)] (rd (.chain (k + 1)) l') l') :
    RdOk 96 [.int .i64 (k : Int)] (rd (.chain k) l) l := by
  intro X R w tv nds d dp m hr hf
  have HC := hide (h l (Nat.le_refl _) X R w tv nds d dp m hr hf)
  have HH := hide h
  have HR := hide hr
  have HF := hide hf
  have hRlt := hr.lt
  clear h hr hf
  obtain ⟨O, hO⟩ : ∃ O, rd (.chain k) l = O := ⟨_, rfl⟩
  have HO := hide hO
  rw [hO]
  clear hO
  simp only [List.toArray, Int.natCast_add, Int.cast_ofNat_Int] at HC
  unfold RdPost at HC
  have hk5 : ¬ (5 : Int) < (k : Int) := by omega
  cases ho : rd (.chain (k + 1)) l with
  | none =>
    have e : O = none := by rw [← unhide HO, rd_chain, if_neg (by omega), ho]
    rw [ho] at HC
    subst e
    clear ho
    go_enter Tryz.func96, Tryz.ntmps96
    go_wp2_with fail
    refine (unhide HC).mono ?_
    rintro e w1 ⟨rfl, hf⟩
    go_wp2
    exact ⟨rfl, rfl, hf⟩
  | some p =>
    obtain ⟨a, li⟩ := p
    rw [ho] at HC
    simp only [] at HC
    have H0 : Hid (O = rd (.tail k a) li ∧ l = a.toks ++ li ∧ a.wf k) := hide (by
      refine ⟨by rw [← unhide HO, rd_chain, if_neg (by omega), ho], rd_toks ho, ?_⟩
      have := rd_wf ho (by simp [Md.ok])
      simp only [Md.lev] at this
      exact wf_down this (by omega) (by omega))
    clear ho
    go_enter Tryz.func96, Tryz.ntmps96
    go_wp2_with fail
    refine (unhide HC).mono ?_
    rintro e w1 ⟨rfl, hf1, hx1⟩
    have A0 : Hid (ChAt X k l O R nds d dp m w a li w1) := hide ⟨(unhide H0).1, (unhide H0).2.1, (unhide H0).2.2, hf1, hx1⟩
    clear hf1 hx1 H0 HC
    go_wp2_with fail
    go_loopw [5] (fun v wr => ∃ (a : Syn) (li : List Tk), v = .int .i64 ((nds.length + a.size - 1 : Nat) : Int) ∧ Hid (ChAt X k l O R nds d dp m w a li wr)) (fun _ wr => restLen (wr.cell? ⟨R, 0, none⟩))
    case atStart => exact ⟨a, li, rfl, A0⟩
    case round =>
      clear A0
      obtain ⟨a, li, rfl, HA⟩ := hrel
      obtain ⟨tva, hRA⟩ := (unhide HA).at_
      have HRA := hide hRA
      have HOP := hide (rop_val R wr tva li _ d _ _ hRA)
      have HFI := hide ((unhide HA).fit (unhide HF))
      have hlen := rest_len hRA
      have HLE := hide hlen
      clear hRA hlen
      have HBD := hide (fun s (e : s = opS (headT li)) w => bind_line s (headT li) e w)
      by_cases hl : lineT (headT li) = k
      · cases li with
        | nil => exact absurd hl (by rw [show headT [] = noT from rfl, opS_noT]; omega)
        | cons t l2 =>
          have hl : lineT t = k := hl
          have kt := (line_kind (t := t) (by omega)).1
          have HL := hide hl
          rw [show headT (t :: l2) = t from rfl] at HOP HBD
          rw [hl] at HBD
          clear hl
          go_wp2_with fail
          refine (unhide HOP).mono ?_
          rintro e wa ⟨rfl, ba⟩
          have HRB := hide ((unhide HRA).nx ba)
          have FA : Hid (Frm R wr wa) := hide (Frm.of ba)
          clear ba HOP HRA
          go_wp2_with fail
          refine (unhide HBD _ rfl _).mono ?_
          rintro e wb ⟨rfl, rfl⟩
          clear HBD
          have HTK := hide (take_ok R wb tva t l2 _ d _ _ (unhide HRB) (by have := (unhide HFI).nodes; simp only [List.length_cons] at this; omega))
          rw [kt] at HTK
          have fl1 := tk_fld1 t
          go_wp2_with fail
          refine (unhide HTK).mono ?_
          rintro e wc ⟨rfl, rc, fc⟩
          have HRC := hide rc
          replace FA := hide ((unhide FA).trans fc)
          have HFT := hide (fit_tail (unhide HFI))
          clear rc fc HTK HRB HFI
          have HCC := hide (unhide HH l2 (by have := congrArg List.length (unhide HA).toks; simp only [List.length_append, List.length_cons] at this; omega) X R wc tva _ d _ _ (unhide HRC) (unhide HFT))
          simp only [List.toArray, Int.natCast_add, Int.cast_ofNat_Int] at HCC
          unfold RdPost at HCC
          clear HH HFT
          cases hb : rd (.chain (k + 1)) l2 with
          | none =>
            have hO := (unhide HA).none (unhide HL) hb
            rw [hb] at HCC
            simp only [] at HCC
            subst hO
            clear hb
            go_wp2_with fail
            refine (unhide HCC).mono ?_
            rintro e wd ⟨rfl, fd⟩
            have FD := hide ((unhide HA).frm.trans ((unhide FA).trans fd))
            clear fd
            go_wp2
            exact ⟨rfl, rfl, unhide FD⟩
          | some p =>
            obtain ⟨b, l3⟩ := p
            rw [hb] at HCC
            simp only [] at HCC
            have HB := hide hb
            clear hb
            obtain ⟨pa, hpa⟩ : ∃ pa : Nat, nds.length + a.size - 1 = pa := ⟨_, rfl⟩
            obtain ⟨pb, hpb⟩ : ∃ pb : Nat, (nds ++ a.emit nds.length).length + b.size - 1 = pb := ⟨_, rfl⟩
            have PA := hide hpa
            have PB := hide hpb
            rw [hpb] at HCC
            rw [hpa]
            clear hpa hpb
            go_wp2_with fail
            refine (unhide HCC).mono ?_
            rintro e wd ⟨rfl, fd, tvd, rd'⟩
            have HRD := hide rd'
            replace FA := hide ((unhide FA).trans fd)
            clear rd' fd HCC HRC
            have hRd := (unhide HRD).lt
            have HP := hide (put_val R _ tvd l3 _ d _ _ (binN t pa pb) (.slice (some ⟨wd.heap.size, 0, none⟩) 2 2) ((unhide HRD).nx (below_al wd (.cells #[.int .i64 (pa : Int), .int .i64 (pb : Int)] 3))) (kidsX_two (unhide HRD) (pa : Int) (pb : Int)) (by
              have := ((unhide HA).fit (unhide HF)).nodes
              have h2 := (size_toks b).1
              have h3 := congrArg List.length (rd_toks (unhide HB))
              simp only [Md.left, List.nil_append, List.length_append, List.length_cons, emit_len] at this h3 ⊢
              omega))
            unfold binN Nd.cells zVl zeroF zeroR at HP
            simp only [] at HP
            go_wp2_with fail
            refine (unhide HP).mono ?_
            rintro e we ⟨rfl, tve, re, fe⟩
            have HRE := hide re
            replace FA := hide (((unhide FA).trans (Frm.of (below_al wd (.cells #[.int .i64 (pa : Int), .int .i64 (pb : Int)] 3)))).trans fe)
            clear re fe HP HRD
            have HN : Hid (ChAt X k l O R nds d dp m w (.bin a t b) l3 we) := hide (by
              refine (unhide HA).step (unhide HL) h1 h5 (unhide HB) (unhide FA) (tv := tve) ?_
              rw [unhide PA, unhide PB]
              exact unhide HRE)
            go_wp2
            go_roundw
            case rel =>
              refine ⟨.bin a t b, l3, ?_, HN⟩
              have hs := size_pos (unhide HA).wf (by omega)
              simp only [emit_len, Syn.size]
              congr 1
            case measure =>
              obtain ⟨tvx, hx⟩ := (unhide HN).at_
              rw [rest_len hx, unhide HLE]
              have := rd_short (unhide HB)
              simp only [List.length_cons]; omega
      · have hO := (unhide HA).stop hl
        subst hO
        have HNE : Hid (¬ ((lineT (headT li) : Int) = (k : Int))) := hide (by omega)
        clear hl
        go_wp2_with fail
        refine (unhide HOP).mono ?_
        rintro e wa ⟨rfl, ba⟩
        have HRB := hide ((unhide HRA).nx ba)
        have FA : Hid (Frm R wr wa) := hide (Frm.of ba)
        clear ba HOP HRA
        go_wp2_with fail
        refine (unhide HBD _ rfl _).mono ?_
        rintro e wb ⟨rfl, rfl⟩
        have hne := unhide HNE
        generalize (lineT (headT li) : Int) = x at hne ⊢
        go_wp2
        exact bodyPost_ret (v := .int .i64 ((nds.length + a.size - 1 : Nat) : Int)) (results_t1 rfl _ _ _ rfl) rfl ⟨rfl, (unhide HA).frm.trans (unhide FA), _, unhide HRB⟩
end Go.Proofs.YtloamahbghjjgaaGreatDoor

namespace Go.Proofs.YtloamahbghjjgaaGreatDoor
open Go.RowKit
variable {X : Nat → Prop}

theorem opS_eq (T : Tk) (c : UInt8) : ((opS T).toList == [c]) = (opL5 T == [c]) := by rw [ByteArray.toList_eq, opS_list]
structure PcAt (X : Nat → Prop) (l : List Tk) (O : Rs) (R : Nat) (nds : List Nd) (d dp m : Nat) (w0 : World) (a : Syn) (li : List Tk) (w : World) : Prop where
  all : O = rd (.pcts a) li
  toks : l = a.toks ++ li
  wf : a.wf 7
  frm : Frm R w0 w
  at_ : ∃ tv, RdAt X R w tv li (nds ++ a.emit nds.length) d (max dp (d + a.nest)) (max m a.most)
theorem PcAt.step {l : List Tk} {O : Rs} {R : Nat} {nds : List Nd} {d dp m : Nat} {w0 w w' : World} {a : Syn} {t : Tk} {l2 : List Tk} {tv : Value} (h : PcAt X l O R nds d dp m w0 a (t :: l2) w) (ht : pctB t = true) (hf : Frm R w w')
    (hr : RdAt X R w' tv l2 ((nds ++ a.emit nds.length) ++ [pctN (nds.length + a.size - 1)]) d (max dp (d + a.nest)) (max m a.most)) : PcAt X l O R nds d dp m w0 (.pct a t) l2 w' := by
  refine ⟨?_, ?_, ⟨Nat.le_refl _, ht, h.wf⟩, h.frm.trans hf, tv, hr.cast ?_ rfl rfl⟩
  · rw [h.all, rd_pcts, if_pos ht]
  · rw [h.toks]; simp [Syn.toks]
  · simp [Syn.emit]
theorem PcAt.stop {l : List Tk} {O : Rs} {R : Nat} {nds : List Nd} {d dp m : Nat} {w0 w : World} {a : Syn} {li : List Tk} (h : PcAt X l O R nds d dp m w0 a li w) (hl : pctB (headT li) = false) : O = some (a, li) := by
  rw [h.all]
  cases li with
  | nil => rfl
  | cons t l2 =>
    have hl : pctB t = false := hl
    rw [rd_pcts, if_neg (by rw [hl]; simp)]
theorem PcAt.fit {l : List Tk} {O : Rs} {R : Nat} {nds : List Nd} {d dp m : Nat} {w0 w : World} {a : Syn} {li : List Tk} (h : PcAt X l O R nds d dp m w0 a li w) (hf : Fit l nds d dp m) : Fit li (nds ++ a.emit nds.length) d (max dp (d + a.nest)) (max m a.most) := fit_next hf h.toks h.wf
set_option maxRecDepth 100000 in
set_option maxHeartbeats 4000000 in
theorem percented_ok (l : List Tk) (h : RdOk 220 [] (rd .operand l) l) : RdOk 190 [] (rd .pcted l) l := by
  intro X R w tv nds d dp m hr hf
  have HC := hide (h X R w tv nds d dp m hr hf)
  have HF := hide hf
  have hRlt := hr.lt
  clear h hr hf
  obtain ⟨O, hO⟩ : ∃ O, rd .pcted l = O := ⟨_, rfl⟩
  have HO := hide hO
  rw [hO]
  clear hO
  simp only [List.toArray] at HC
  unfold RdPost at HC
  cases ho : rd .operand l with
  | none =>
    have e : O = none := by rw [← unhide HO, rd_pcted, ho]
    rw [ho] at HC
    subst e
    clear ho
    go_enter Tryz.func190, Tryz.ntmps190
    go_wp2_with fail
    refine (unhide HC).mono ?_
    rintro e w1 ⟨rfl, hf⟩
    go_wp2
    exact ⟨rfl, rfl, hf⟩
  | some p =>
    obtain ⟨a, li⟩ := p
    rw [ho] at HC
    simp only [] at HC
    have H0 : Hid (O = rd (.pcts a) li ∧ l = a.toks ++ li ∧ a.wf 7) := hide (by
      refine ⟨by rw [← unhide HO, rd_pcted, ho], rd_toks ho, ?_⟩
      have := rd_wf ho trivial
      exact wf_down this (by simp [Md.lev]) (by simp [Md.lev]))
    clear ho
    go_enter Tryz.func190, Tryz.ntmps190
    go_wp2_with fail
    refine (unhide HC).mono ?_
    rintro e w1 ⟨rfl, hf1, hx1⟩
    have A0 : Hid (PcAt X l O R nds d dp m w a li w1) := hide ⟨(unhide H0).1, (unhide H0).2.1, (unhide H0).2.2, hf1, hx1⟩
    clear hf1 hx1 H0 HC
    go_wp2_with fail
    go_loopw [3] (fun v wr => ∃ (a : Syn) (li : List Tk), v = .int .i64 ((nds.length + a.size - 1 : Nat) : Int) ∧ Hid (PcAt X l O R nds d dp m w a li wr)) (fun _ wr => restLen (wr.cell? ⟨R, 0, none⟩))
    case atStart => exact ⟨a, li, rfl, A0⟩
    case round =>
      clear A0
      obtain ⟨a, li, rfl, HA⟩ := hrel
      obtain ⟨tva, hRA⟩ := (unhide HA).at_
      have HRA := hide hRA
      have HOP := hide (rop_val R wr tva li _ d _ _ hRA)
      have HFI := hide ((unhide HA).fit (unhide HF))
      have hlen := rest_len hRA
      have HLE := hide hlen
      clear hRA hlen
      have hpc := opS_eq (headT li) 37
      cases hl : pctB (headT li) with
      | true =>
        rw [show (opL5 (headT li) == [37]) = true from hl] at hpc
        cases li with
        | nil => exact absurd hl (by rw [show headT [] = noT from rfl]; decide)
        | cons t l2 =>
          have hl : pctB t = true := hl
          have kt := (pct_line hl).2.2
          have HL := hide hl
          rw [show headT (t :: l2) = t from rfl] at HOP hpc
          clear hl
          go_wp2_with fail
          refine (unhide HOP).mono ?_
          rintro e wa ⟨rfl, ba⟩
          have HRB := hide ((unhide HRA).nx ba)
          have FA : Hid (Frm R wr wa) := hide (Frm.of ba)
          clear ba HOP HRA
          have HTK := hide (take_ok R wa tva t l2 _ d _ _ (unhide HRB) (by have := (unhide HFI).nodes; simp only [List.length_cons] at this; omega))
          rw [kt] at HTK
          go_wp2_with fail
          refine (unhide HTK).mono ?_
          rintro e wc ⟨rfl, rc, fc⟩
          have HRC := hide rc
          replace FA := hide ((unhide FA).trans fc)
          clear rc fc HTK HRB
          obtain ⟨pa, hpa⟩ : ∃ pa : Nat, nds.length + a.size - 1 = pa := ⟨_, rfl⟩
          have PA := hide hpa
          rw [hpa]
          clear hpa
          have hRc := (unhide HRC).lt
          have HP := hide (put_val R _ tva l2 _ d _ _ (pctN pa) (.slice (some ⟨wc.heap.size, 0, none⟩) 1 1) ((unhide HRC).nx (below_al wc (.cells #[.int .i64 (pa : Int)] 3))) (kidsX_one (unhide HRC) (pa : Int)) (by
            have := (unhide HFI).nodes
            simp only [List.length_append, List.length_cons, emit_len] at this ⊢
            omega))
          unfold pctN Nd.cells zVl zeroF zeroR at HP
          simp only [] at HP
          go_wp2_with fail
          refine (unhide HP).mono ?_
          rintro e we ⟨rfl, tve, re, fe⟩
          have HRE := hide re
          replace FA := hide (((unhide FA).trans (Frm.of (below_al wc (.cells #[.int .i64 (pa : Int)] 3)))).trans fe)
          clear re fe HP HRC
          have HN : Hid (PcAt X l O R nds d dp m w (.pct a t) l2 we) := hide (by
            refine (unhide HA).step (unhide HL) (unhide FA) (tv := tve) ?_
            rw [unhide PA]
            exact unhide HRE)
          go_wp2
          go_roundw
          case rel =>
            refine ⟨.pct a t, l2, ?_, HN⟩
            simp only [emit_len, Syn.size]
            congr 1
          case measure =>
            obtain ⟨tvx, hx⟩ := (unhide HN).at_
            rw [rest_len hx, unhide HLE]
            simp
      | false =>
        rw [show (opL5 (headT li) == [37]) = false from hl] at hpc
        have hO := (unhide HA).stop hl
        subst hO
        clear hl
        go_wp2_with fail
        refine (unhide HOP).mono ?_
        rintro e wa ⟨rfl, ba⟩
        have HRB := hide ((unhide HRA).nx ba)
        have FA : Hid (Frm R wr wa) := hide (Frm.of ba)
        clear ba HOP HRA
        go_wp2
        exact bodyPost_ret (v := .int .i64 ((nds.length + a.size - 1 : Nat) : Int)) (results_t1 rfl _ _ _ rfl) rfl ⟨rfl, (unhide HA).frm.trans (unhide FA), _, unhide HRB⟩
end Go.Proofs.YtloamahbghjjgaaGreatDoor
