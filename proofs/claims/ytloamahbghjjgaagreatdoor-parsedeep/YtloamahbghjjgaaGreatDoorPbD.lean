/- The walk of the reader's put. -/
import Derived.Test.YtloamahbghjjgaaGreatDoorPbA
import Derived.Deep.MidRow
import Derived.Deep.WholeRow
namespace Go.Proofs.YtloamahbghjjgaaGreatDoor
open Go.RowKit
variable {X : Nat → Prop}

/-- append onto a row of one's own, as one step of a region that draws. -/
theorem step_append_own {P : Program} {ops : Array Oper} {o : Oper} {a : Act} {w : World} {K : Act → World → Prop} {Q : Exit → Act → World → Prop} {E : Prop} (hgd : o.guard = none) (s x : Operand) (t : TypeId)
    (ho : o.op = .call { callee := .builtin .append, args := #[s, x], argTypes := #[t, t] })
    (base : Nat) (e : TypeId) (i : TypeInfo) (z : Value) (size bytes : Nat) (ht : P.underlying t = some (.slice e)) (hi : P.info? e = some i) (hz : i.zero = some z)
    (hsize : i.size = size) (hby : i.bytes = bytes) (hzs : z.cells.size = size) (hsz : 0 < size)
    (v : Value) (n : Nat) (xs : List Value) (hs : a.eval s = v) (hown : w.ownsRow base e size v n xs)
    (ad : Addr) (m c : Nat) (news : List Value) (hx : a.eval x = .slice (some ad) m c) (hl : news.length = m * size) (hnews : ∀ j u, news[j]? = some u → w.cell? (ad.add j) = some u) (h1 : ∀ u ∈ news, u.oneCell' = true)
    (h63 : n + m ≤ maxLen) (hbytes : (n + m) * bytes ≤ 140737488355328) (hbase : base ≤ w.heap.size)
    (h : ∀ v' w', w'.ownsRow base e size v' (n + m) (xs ++ news) → w.grownBy w' v.ownBlock → (v' = .slice none 0 0 ↔ v = .slice none 0 0 ∧ m = 0) → K (a.put o.dst v') w') :
    if Region.wanted o (yielded ops a.tmps) = true then Oper.wp P o a w K Q else E := by
  have hw : Region.wanted o (yielded ops a.tmps) = true := by simp [Region.wanted, hgd]
  rw [if_pos hw]
  exact wp_append_own w s x t ho base e i z size bytes ht hi hz hsize hby hzs hsz v n xs hs hown ad m c news hx hl hnews h1 h63 hbytes hbase h
theorem infoNd : (Tryz.prog.info? 55).map (fun i => (i.zero, i.size, i.bytes)) = some (some (.agg #[.int .i64 0, .string ⟨#[]⟩, .int .i64 0, .int .i64 0, .string ⟨#[]⟩, .bool false, .int .i64 0, .string ⟨#[]⟩, .string ⟨#[]⟩, .int .i64 0, .int .i64 0, .bool false, .bool false, .int .i64 0, .int .i64 0, .bool false, .bool false, .bool false, .slice none 0 0]), 19, 184) := by kernel_rfl
theorem infoNs : (Tryz.prog.info? 55).map (·.size) = some 19 := by kernel_rfl
theorem range_cells0 {w : World} {B : Nat} {t : TypeId} {cs : Array Value} (h : CellsAt w B t cs) : w.rangeAt B 0 cs.toList := fun j v hv => by
  rw [Nat.zero_add]; exact cells_c h j v (by simpa using hv)
theorem owns_some {w : World} {B T n s : Nat} {v : Value} {xs : List Value} (h : w.ownsRow B T s v n xs) (hn : 0 < n) : ∃ g cap, v = .slice (some ⟨g, 0, none⟩) n cap := by
  rcases h.2 with ⟨_, h0⟩ | ⟨g, cap, cur, rfl, _⟩
  · omega
  · exact ⟨g, cap, rfl⟩
/-- A node's cells, each one cell wide. -/
def IsNd (cs : Array Value) : Prop := cs.size = 19 ∧ ∀ v ∈ cs.toList, v.oneCell' = true
theorem nd_row (n : Nd) (kv : Value) (h : kv.oneCell' = true) : IsNd (n.cells kv) := ⟨rfl, by
  intro v hv
  simp only [Nd.cells, List.mem_cons, List.not_mem_nil, or_false] at hv
  rcases hv with h | h | h | h | h | h | h | h | h | h | h | h | h | h | h | h | h | h | h <;> subst h <;> first | rfl | assumption⟩
theorem kids_cell {w : World} {B : Nat} {kv : Value} {ks : List Int} (h : KidsAt w B kv ks) : kv.oneCell' = true := by
  rcases h.2 with ⟨rfl, _⟩ | ⟨g, cap, cur, rfl, _⟩ <;> rfl
theorem put_fin {R : Nat} {w WW w1 : World} {tv v' : Value} {l : List Tk} {nds : List Nd} {d dp m : Nat} {nd : Nd} {kv : Value} {ps : List Np} (h : RdAt X R w tv l nds d dp m) (hb : Below w.heap.size w WW) (hp1 : ps.map (·.1) = nds)
    (hown0 : w.ownsRow (R + 1) ndT 19 tv nds.length (flatN ps)) (hks : ∀ p ∈ ps, KidsAt w (R + 1) p.2 p.1.kids ∧ ∀ g, p.2.ownBlock = some g → ¬ X g) (hk : KidsAt w (R + 1) kv nd.kids ∧ ∀ g, kv.ownBlock = some g → ¬ X g)
    (hown1 : w1.ownsRow (R + 1) ndT 19 v' (nds.length + 1) (flatN ps ++ (nd.cells kv).toList)) (hgrow : WW.grownBy w1 tv.ownBlock) :
    RdAt X R (w1.setCell ⟨R, 1, none⟩ v') v' l (nds ++ [nd]) d dp m ∧ Frm R w (w1.setCell ⟨R, 1, none⟩ v') := by
  have hR := h.lt
  have hpl : ps.length = nds.length := by rw [← hp1]; simp
  have hown : w.ownsRow (R + 1) ndT 19 tv ps.length (flatN ps) := by rw [hpl]; exact hown0
  have hown' : w1.ownsRow (R + 1) ndT 19 v' (ps.length + 1) (flatN ps ++ (nd.cells kv).toList) := by rw [hpl]; exact hown1
  have hdif : ∀ k, tv.ownBlock = some k → R + 1 ≤ k ∧ ∃ cur, w.heap[k]? = some (.cells cur ndT (0, 0)) := fun k e => ⟨(hown.lt k e).1, owns_type hown e⟩
  have hsame : ∀ k, k < w.heap.size → some k ≠ tv.ownBlock → w1.heap[k]? = w.heap[k]? := fun k hk hn => by
    rw [hgrow.block k (Nat.lt_of_lt_of_le hk hb.size) hn, hb.block k hk]
  have hup : w.heap.size ≤ w1.heap.size := Nat.le_trans hb.size hgrow.size
  have hrow : NodeRowX X ndT w1 (R + 1) v' (nds ++ [nd]) := by
    rw [← hp1]
    exact nodes_step (p := (nd, kv)) (by decide) (owns_grown hown (fun k hk _ => hb.block k hk)) (fun q hq => ⟨kids_below (hks q hq).1 hb, (hks q hq).2⟩) ⟨kids_below hk.1 hb, hk.2⟩ hown' hgrow
  obtain ⟨a, cap, h1, h2, h3, h4⟩ := h.cells
  have hRn : some R ≠ tv.ownBlock := fun e => by have := (hdif R e.symm).1; omega
  have hc1 : CellsAt w1 R rdT #[.slice a l.length cap, tv, .int .i64 (d : Int), .int .i64 (dp : Int), .int .i64 (m : Int)] := by
    unfold CellsAt at h1 ⊢
    rw [hsame R hR hRn]; exact h1
  have hs : (w1.setCell ⟨R, 1, none⟩ v').heap.size = w1.heap.size := by simp [World.setCell]
  refine ⟨⟨⟨a, cap, cells_set hc1 1 v', h2, ?_, h4⟩, ?_, fun x hx => by have := h.lim x hx; omega⟩, ?_⟩
  · refine toks_old h3 h4 (fun k hk => ?_) (by omega)
    rw [heap_setCell_other _ _ _ _ (by show k ≠ R; omega)]
    exact hsame k (by omega) (fun e => by have := (hdif k e.symm).1; omega)
  · obtain ⟨qs, q1, q2, q3⟩ := hrow
    have far : ∀ {T n s : Nat} {v : Value} {xs : List Value}, w1.ownsRow (R + 1) T s v n xs → (w1.setCell ⟨R, 1, none⟩ v').ownsRow (R + 1) T s v n xs := fun {T n s v xs} h =>
      owns_grown h (fun k hk hv => heap_setCell_other _ _ _ _ (by have := (h.lt k hv).1; show k ≠ R; omega))
    exact ⟨qs, q1, far q2, fun p hp => ⟨far (q3 p hp).1, (q3 p hp).2⟩⟩
  · refine ⟨hgrow.os.trans hb.os, hgrow.tape.trans hb.tape, hgrow.output.trans hb.output, by omega, fun k hk hkR hn => ?_⟩
    rw [heap_setCell_other _ _ _ _ (by show k ≠ R; exact hkR)]
    refine hsame k hk (fun e => ?_)
    obtain ⟨e1, cur, e2⟩ := hdif k e.symm
    rcases hn with h | h
    · omega
    · exact h _ _ e2
theorem range_far {w : World} {A R i o : Nat} {cs : List Value} {v : Value} (h : w.rangeAt A o cs) (hA : R < A) : (w.setCell ⟨R, i, none⟩ v).rangeAt A o cs := fun j u hu => by
  rw [World.cell?_of_block (w := w) (heap_setCell_other _ _ _ _ (by show A ≠ R; omega))]; exact h j u hu
theorem below_drew {w a : World} (h : Below w.heap.size w a) : Below w.heap.size w a.drew := h.drew
set_option maxRecDepth 100000 in
set_option maxHeartbeats 4000000 in
theorem put_val (R : Nat) (w : World) (tv : Value) (l : List Tk) (nds : List Nd) (d dp m : Nat) (nd : Nd) (kv : Value) (h : RdAt X R w tv l nds d dp m) (hk : KidsAt w (R + 1) kv nd.kids ∧ ∀ g, kv.ownBlock = some g → ¬ X g) (hn : nds.length ≤ 10000) :
    Calls Tryz.prog 155 #[.pointer (some ⟨R, 0, none⟩), .agg (nd.cells kv)] w fun e w' => e = .returned (.int .i64 (nds.length : Nat)) ∧ ∃ tv', RdAt X R w' tv' l (nds ++ [nd]) d dp m ∧ Frm R w w' := by
  obtain ⟨i0, hi, hz0, hz1, hz2⟩ := info_parts infoNd
  have HI := hide (nd_row nd kv (kids_cell hk.1)).2
  have hkv : kv.oneCell' = true := kids_cell hk.1
  have hR := h.lt
  obtain ⟨a, cap, hc, hcap, ht, ha⟩ := h.cells
  have HH := hide h
  obtain ⟨ps, hp1, hp2, hp3⟩ := h.row
  have hpl : ps.length = nds.length := by rw [← hp1]; simp
  rw [hpl] at hp2
  clear hpl
  have HK := hide hk
  have H2 := hide hp2
  have H3 := hide hp3
  have H1 := hide hp1
  clear h hk hp1 hp2 hp3
  obtain ⟨kd, op, ⟨v1, v2, v3, v4, v5⟩, ⟨bk, sh, ⟨c1, r1, f1, g1⟩, ⟨c2, r2, f2, g2⟩, wd⟩, ks⟩ := nd
  unfold Nd.cells at HI ⊢
  simp only [] at HI HK ⊢
  obtain ⟨c0, k1, q2, q3, q4⟩ := cells5 (cells_al hc (.cells #[.int .i64 kd, .string op, .int .i64 v1, .int .i64 v2, .string v3, .bool v4, .int .i64 v5, .string bk, .string sh, .int .i64 c1, .int .i64 r1, .bool f1, .bool g1, .int .i64 c2, .int .i64 r2, .bool f2, .bool g2, .bool wd, kv] ndT))
  have f1' := cells_f (cells_al hc (.cells #[.int .i64 kd, .string op, .int .i64 v1, .int .i64 v2, .string v3, .bool v4, .int .i64 v5, .string bk, .string sh, .int .i64 c1, .int .i64 r1, .bool f1, .bool g1, .int .i64 c2, .int .i64 r2, .bool f2, .bool g2, .bool wd, kv] ndT)) 1
  have HB0 := hide (below_al w (.cells #[.int .i64 kd, .string op, .int .i64 v1, .int .i64 v2, .string v3, .bool v4, .int .i64 v5, .string bk, .string sh, .int .i64 c1, .int .i64 r1, .bool f1, .bool g1, .int .i64 c2, .int .i64 r2, .bool f2, .bool g2, .bool wd, kv] ndT))
  have k1w : ((w.alloc (.cells #[.int .i64 kd, .string op, .int .i64 v1, .int .i64 v2, .string v3, .bool v4, .int .i64 v5, .string bk, .string sh, .int .i64 c1, .int .i64 r1, .bool f1, .bool g1, .int .i64 c2, .int .i64 r2, .bool f2, .bool g2, .bool wd, kv] 55)).alloc (.cells #[.int .i64 kd, .string op, .int .i64 v1, .int .i64 v2, .string v3, .bool v4, .int .i64 v5, .string bk, .string sh, .int .i64 c1, .int .i64 r1, .bool f1, .bool g1, .int .i64 c2, .int .i64 r2, .bool f2, .bool g2, .bool wd, kv] 55)).drew.cell? ⟨R, 1, none⟩ = some tv := (cells5 (cells_drew (cells_al (cells_al hc (.cells #[.int .i64 kd, .string op, .int .i64 v1, .int .i64 v2, .string v3, .bool v4, .int .i64 v5, .string bk, .string sh, .int .i64 c1, .int .i64 r1, .bool f1, .bool g1, .int .i64 c2, .int .i64 r2, .bool f2, .bool g2, .bool wd, kv] 55)) (.cells #[.int .i64 kd, .string op, .int .i64 v1, .int .i64 v2, .string v3, .bool v4, .int .i64 v5, .string bk, .string sh, .int .i64 c1, .int .i64 r1, .bool f1, .bool g1, .int .i64 c2, .int .i64 r2, .bool f2, .bool g2, .bool wd, kv] 55)))).2.1
  have f1w : ((w.alloc (.cells #[.int .i64 kd, .string op, .int .i64 v1, .int .i64 v2, .string v3, .bool v4, .int .i64 v5, .string bk, .string sh, .int .i64 c1, .int .i64 r1, .bool f1, .bool g1, .int .i64 c2, .int .i64 r2, .bool f2, .bool g2, .bool wd, kv] 55)).alloc (.cells #[.int .i64 kd, .string op, .int .i64 v1, .int .i64 v2, .string v3, .bool v4, .int .i64 v5, .string bk, .string sh, .int .i64 c1, .int .i64 r1, .bool f1, .bool g1, .int .i64 c2, .int .i64 r2, .bool f2, .bool g2, .bool wd, kv] 55)).drew.frozen? ⟨R, 1, none⟩ = false := cells_f (cells_drew (cells_al (cells_al hc (.cells #[.int .i64 kd, .string op, .int .i64 v1, .int .i64 v2, .string v3, .bool v4, .int .i64 v5, .string bk, .string sh, .int .i64 c1, .int .i64 r1, .bool f1, .bool g1, .int .i64 c2, .int .i64 r2, .bool f2, .bool g2, .bool wd, kv] 55)) (.cells #[.int .i64 kd, .string op, .int .i64 v1, .int .i64 v2, .string v3, .bool v4, .int .i64 v5, .string bk, .string sh, .int .i64 c1, .int .i64 r1, .bool f1, .bool g1, .int .i64 c2, .int .i64 r2, .bool f2, .bool g2, .bool wd, kv] 55))) 1
  have hRw : R < ((w.alloc (.cells #[.int .i64 kd, .string op, .int .i64 v1, .int .i64 v2, .string v3, .bool v4, .int .i64 v5, .string bk, .string sh, .int .i64 c1, .int .i64 r1, .bool f1, .bool g1, .int .i64 c2, .int .i64 r2, .bool f2, .bool g2, .bool wd, kv] 55)).alloc (.cells #[.int .i64 kd, .string op, .int .i64 v1, .int .i64 v2, .string v3, .bool v4, .int .i64 v5, .string bk, .string sh, .int .i64 c1, .int .i64 r1, .bool f1, .bool g1, .int .i64 c2, .int .i64 r2, .bool f2, .bool g2, .bool wd, kv] 55)).drew.heap.size := by simp; omega
  have K1 := hide k1w
  have F1 := hide f1w
  have RW := hide hRw
  clear k1w f1w hRw
  have HNE : some R ≠ tv.ownBlock := fun e => by have := ((unhide H2).lt R e.symm).1; omega
  have NE := hide HNE
  have SB := hide (show ((w.alloc (.cells #[.int .i64 kd, .string op, .int .i64 v1, .int .i64 v2, .string v3, .bool v4, .int .i64 v5, .string bk, .string sh, .int .i64 c1, .int .i64 r1, .bool f1, .bool g1, .int .i64 c2, .int .i64 r2, .bool f2, .bool g2, .bool wd, kv] 55)).alloc (.cells #[.int .i64 kd, .string op, .int .i64 v1, .int .i64 v2, .string v3, .bool v4, .int .i64 v5, .string bk, .string sh, .int .i64 c1, .int .i64 r1, .bool f1, .bool g1, .int .i64 c2, .int .i64 r2, .bool f2, .bool g2, .bool wd, kv] 55)).drew.rangeAt w.heap.size 0 [.int .i64 kd, .string op, .int .i64 v1, .int .i64 v2, .string v3, .bool v4, .int .i64 v5, .string bk, .string sh, .int .i64 c1, .int .i64 r1, .bool f1, .bool g1, .int .i64 c2, .int .i64 r2, .bool f2, .bool g2, .bool wd, kv] from range_cells0 (cells_drew (cells_al (cells_new w ndT #[.int .i64 kd, .string op, .int .i64 v1, .int .i64 v2, .string v3, .bool v4, .int .i64 v5, .string bk, .string sh, .int .i64 c1, .int .i64 r1, .bool f1, .bool g1, .int .i64 c2, .int .i64 r2, .bool f2, .bool g2, .bool wd, kv]) (.cells #[.int .i64 kd, .string op, .int .i64 v1, .int .i64 v2, .string v3, .bool v4, .int .i64 v5, .string bk, .string sh, .int .i64 c1, .int .i64 r1, .bool f1, .bool g1, .int .i64 c2, .int .i64 r2, .bool f2, .bool g2, .bool wd, kv] 55))))
  have NA := hide (show some w.heap.size ≠ tv.ownBlock from fun e => by have := ((unhide H2).lt _ e.symm).2; omega)
  clear hc ht ha hcap c0 q2 q3 q4 HNE hkv HB0
  go_enter Tryz.func155, Tryz.ntmps155
  go_upto_region 1 with fail
  -- the region, by hand
  refine wp_region_held_drew (S := fun w' => w'.rangeAt w.heap.size 0 [.int .i64 kd, .string op, .int .i64 v1, .int .i64 v2, .string v3, .bool v4, .int .i64 v5, .string bk, .string sh, .int .i64 c1, .int .i64 r1, .bool f1, .bool g1, .int .i64 c2, .int .i64 r2, .bool f2, .bool g2, .bool wd, kv]) (by kernel_rfl) (range_cells0 (cells_drew (cells_new w ndT #[.int .i64 kd, .string op, .int .i64 v1, .int .i64 v2, .string v3, .bool v4, .int .i64 v5, .string bk, .string sh, .int .i64 c1, .int .i64 r1, .bool f1, .bool g1, .int .i64 c2, .int .i64 r2, .bool f2, .bool g2, .bool wd, kv]))) (fun hS => ?_)
  refine wpAnyH_take (i := 0) (oi := ({ dst := some 5, op := Op.move (Operand.tmp 0), type := 80, pos := "parse.go:149", after := #[], guard := none } : Oper)) (v := Value.pointer (some ⟨R, 0, none⟩)) rfl (by kernel_rfl) (by kernel_rfl) (by kernel_rfl) (fun _ _ _ h => h) (Or.inl ⟨by rfl, fun w hSw => by go_simp⟩) hS ?_
  refine wpAnyH_take (i := 1) (oi := ({ dst := some 6, op := Op.move (Operand.tmp 0), type := 80, pos := "parse.go:149", after := #[], guard := none } : Oper)) (v := Value.pointer (some ⟨R, 0, none⟩)) rfl (by kernel_rfl) (by kernel_rfl) (by kernel_rfl) (fun _ _ _ h => h) (Or.inl ⟨by rfl, fun w hSw => by go_simp⟩) hS ?_
  refine wpAnyH_take (i := 2) (oi := ({ dst := some 7, op := Op.nilCheck (Operand.tmp 6), type := 0, pos := "parse.go:149", after := #[{ on := 1, ground := Ground.data }], guard := none } : Oper)) (v := Value.pointer (some ⟨R, 0, none⟩)) rfl (by kernel_rfl) (by kernel_rfl) (by kernel_rfl) (fun _ _ _ h => h) (Or.inl ⟨by rfl, fun w hSw => by go_simp⟩) hS ?_
  refine wpAnyH_take (i := 3) (oi := ({ dst := some 8, op := Op.fieldAddr 82 (Operand.tmp 7) 1, type := 0, pos := "parse.go:149", after := #[{ on := 2, ground := Ground.data }], guard := none } : Oper)) (v := Value.pointer (some ⟨R, 1, none⟩)) rfl (by kernel_rfl) (by kernel_rfl) (by kernel_rfl) (fun _ _ _ h => h) (Or.inl ⟨by rfl, fun w hSw => by go_simp⟩) hS ?_
  refine wpAnyH_take (i := 5) (oi := ({ dst := some 10, op := Op.load 55 (Operand.tmp 3), type := 55, pos := "parse.go:149", after := #[], guard := none } : Oper)) (v := Value.agg #[.int .i64 kd, .string op, .int .i64 v1, .int .i64 v2, .string v3, .bool v4, .int .i64 v5, .string bk, .string sh, .int .i64 c1, .int .i64 r1, .bool f1, .bool g1, .int .i64 c2, .int .i64 r2, .bool f2, .bool g2, .bool wd, kv]) rfl (by kernel_rfl) (by kernel_rfl) (by kernel_rfl) (fun _ _ _ h => h) (yieldsIf_load_mid (by rfl) 55 _ rfl w.heap.size 0 rfl [.int .i64 kd, .string op, .int .i64 v1, .int .i64 v2, .string v3, .bool v4, .int .i64 v5, .string bk, .string sh, .int .i64 c1, .int .i64 r1, .bool f1, .bool g1, .int .i64 c2, .int .i64 r2, .bool f2, .bool g2, .bool wd, kv] _ (fun _ h => h) Tryz.underlying55 rfl infoNs) hS ?_
  have hS3 : ((w.alloc (.cells #[.int .i64 kd, .string op, .int .i64 v1, .int .i64 v2, .string v3, .bool v4, .int .i64 v5, .string bk, .string sh, .int .i64 c1, .int .i64 r1, .bool f1, .bool g1, .int .i64 c2, .int .i64 r2, .bool f2, .bool g2, .bool wd, kv] 55)).alloc (.cells #[.int .i64 kd, .string op, .int .i64 v1, .int .i64 v2, .string v3, .bool v4, .int .i64 v5, .string bk, .string sh, .int .i64 c1, .int .i64 r1, .bool f1, .bool g1, .int .i64 c2, .int .i64 r2, .bool f2, .bool g2, .bool wd, kv] 55)).drew.rangeAt w.heap.size 0 [.int .i64 kd, .string op, .int .i64 v1, .int .i64 v2, .string v3, .bool v4, .int .i64 v5, .string bk, .string sh, .int .i64 c1, .int .i64 r1, .bool f1, .bool g1, .int .i64 c2, .int .i64 r2, .bool f2, .bool g2, .bool wd, kv] := unhide SB
  refine wpAnyH_ready (rs := [4, 6]) (by kernel_rfl) (by simp) ?_
  refine AllReadyH.cons (o := ({ dst := some 9, op := Op.load 23 (Operand.tmp 8), type := 23, pos := "parse.go:149", after := #[{ on := 3, ground := Ground.data }], guard := none } : Oper)) rfl (fun K hK => ?_) (AllReadyH.cons (o := ({ dst := some 11, op := Op.buildSlice 23 1 #[(0, Operand.tmp 10)], type := 23, pos := "parse.go:149", after := #[{ on := 5, ground := Ground.data }], guard := none } : Oper)) rfl (fun K hK => ?_) AllReadyH.nil)
  · go_simp
    refine hK.out _ _ hS (fun _ => ?_)
    clear hK K
    refine wpAnyH_ready (rs := [6]) (by kernel_rfl) (by simp) ?_
    refine AllReadyH.cons (o := ({ dst := some 11, op := Op.buildSlice 23 1 #[(0, Operand.tmp 10)], type := 23, pos := "parse.go:149", after := #[{ on := 5, ground := Ground.data }], guard := none } : Oper)) rfl (fun K hK => ?_) AllReadyH.nil
    go_simp
    refine hK.out _ _ hS3 (fun _ => ?_)
    clear hK K hS3
    refine wpAnyH_ready (rs := [7]) (by kernel_rfl) (by simp) ?_
    refine AllReadyH.cons (o := ({ dst := some 12, op := Op.call { callee := Callee.builtin Builtin.append, args := #[Operand.tmp 9, Operand.tmp 11], argTypes := #[23, 23] }, type := 23, pos := "parse.go:149", after := #[{ on := 4, ground := Ground.data }, { on := 6, ground := Ground.data }], guard := none } : Oper)) rfl (fun K hK => ?_) AllReadyH.nil
    refine step_append_own rfl (.tmp 9) (.tmp 11) 23 rfl (R + 1) ndT i0 (.agg #[.int .i64 0, .string ⟨#[]⟩, .int .i64 0, .int .i64 0, .string ⟨#[]⟩, .bool false, .int .i64 0, .string ⟨#[]⟩, .string ⟨#[]⟩, .int .i64 0, .int .i64 0, .bool false, .bool false, .int .i64 0, .int .i64 0, .bool false, .bool false, .bool false, .slice none 0 0]) 19 184 Tryz.underlying23 hi hz0 hz1 hz2 rfl (by decide) tv nds.length (flatN ps) rfl (((unhide H2).alloc _).alloc _).drew ⟨w.heap.size + 1, 0, none⟩ 1 1 [.int .i64 kd, .string op, .int .i64 v1, .int .i64 v2, .string v3, .bool v4, .int .i64 v5, .string bk, .string sh, .int .i64 c1, .int .i64 r1, .bool f1, .bool g1, .int .i64 c2, .int .i64 r2, .bool f2, .bool g2, .bool wd, kv] rfl rfl (World.news_of_block (heap_alloc2_new _ _ _)) (unhide HI) (by unfold maxLen; omega) (by omega) (by simp; omega) ?_
    intro v' w1 hown' hgrow _
    obtain ⟨g', cap', rfl⟩ := owns_some hown' (by omega)
    have k3 : w1.cell? ⟨R, 1, none⟩ = some tv := hgrow.cell (unhide K1) (unhide NE)
    have f3 : w1.frozen? ⟨R, 1, none⟩ = false := (World.frozen?_of_block (hgrow.block R (unhide RW) (unhide NE))).trans (unhide F1)
    have HO := hide hown'
    have HG := hide hgrow
    have hS2 : w1.rangeAt w.heap.size 0 [.int .i64 kd, .string op, .int .i64 v1, .int .i64 v2, .string v3, .bool v4, .int .i64 v5, .string bk, .string sh, .int .i64 c1, .int .i64 r1, .bool f1, .bool g1, .int .i64 c2, .int .i64 r2, .bool f2, .bool g2, .bool wd, kv] := fun j v hv => hgrow.cell (unhide SB j v hv) (unhide NA)
    clear hown' hgrow
    refine hK.out _ _ hS2 (fun _ => ?_)
    clear hK K hS
    refine wpAnyH_take (i := 8) (oi := ({ dst := some 13, op := Op.nilCheck (Operand.tmp 5), type := 0, pos := "parse.go:149", after := #[{ on := 0, ground := Ground.data }, { on := 0, ground := Ground.phase }, { on := 1, ground := Ground.phase }, { on := 2, ground := Ground.phase }, { on := 3, ground := Ground.phase }, { on := 4, ground := Ground.phase }, { on := 5, ground := Ground.phase }, { on := 6, ground := Ground.phase }, { on := 7, ground := Ground.phase }], guard := none } : Oper)) (v := Value.pointer (some ⟨R, 0, none⟩)) rfl (by kernel_rfl) (by kernel_rfl) (by kernel_rfl) (fun _ _ _ h => h) (Or.inl ⟨by rfl, fun w hSw => by go_simp⟩) hS2 ?_
    refine wpAnyH_take (i := 9) (oi := ({ dst := some 14, op := Op.fieldAddr 82 (Operand.tmp 13) 1, type := 0, pos := "parse.go:149", after := #[{ on := 8, ground := Ground.data }, { on := 0, ground := Ground.phase }, { on := 1, ground := Ground.phase }, { on := 2, ground := Ground.phase }, { on := 3, ground := Ground.phase }, { on := 4, ground := Ground.phase }, { on := 5, ground := Ground.phase }, { on := 6, ground := Ground.phase }, { on := 7, ground := Ground.phase }], guard := none } : Oper)) (v := Value.pointer (some ⟨R, 1, none⟩)) rfl (by kernel_rfl) (by kernel_rfl) (by kernel_rfl) (fun _ _ _ h => h) (Or.inl ⟨by rfl, fun w hSw => by go_simp⟩) hS2 ?_
    refine wpAnyH_ready (rs := [10]) (by kernel_rfl) (by simp) ?_
    refine AllReadyH.cons (o := ({ dst := none, op := Op.store 23 (Operand.tmp 14) (Operand.tmp 12), type := 0, pos := "parse.go:149", after := #[{ on := 9, ground := Ground.data }, { on := 7, ground := Ground.data }, { on := 7, ground := Ground.chain }, { on := 0, ground := Ground.phase }, { on := 1, ground := Ground.phase }, { on := 2, ground := Ground.phase }, { on := 3, ground := Ground.phase }, { on := 4, ground := Ground.phase }, { on := 5, ground := Ground.phase }, { on := 6, ground := Ground.phase }, { on := 7, ground := Ground.phase }], guard := none } : Oper)) rfl (fun K hK => ?_) AllReadyH.nil
    go_simp
    refine hK.out _ _ (range_far hS2 (by omega)) (fun _ => ?_)
    clear hK K
    refine wpAnyH_done (by kernel_rfl) ?_ _
    have kk := World.cell?_setCell_same' w1 ⟨R, 1, none⟩ (.slice (some ⟨g', 0, none⟩) (nds.length + 1) cap') (by rw [k3]; rfl)
    go_wp2
    refine bodyPost_ret (v := .int .i64 (nds.length : Nat)) (results_t1 rfl _ _ _ rfl) rfl ⟨rfl, .slice (some ⟨g', 0, none⟩) (nds.length + 1) cap', ?_⟩
    exact put_fin (nd := ⟨kd, op, ⟨v1, v2, v3, v4, v5⟩, ⟨bk, sh, ⟨c1, r1, f1, g1⟩, ⟨c2, r2, f2, g2⟩, wd⟩, ks⟩) (kv := kv) (unhide HH) (below_al2 _ _ _).drew (unhide H1) (unhide H2) (unhide H3) (unhide HK) (unhide HO) (unhide HG)
  · go_simp
    refine hK.out _ _ hS3 (fun _ => ?_)
    clear hK K
    refine wpAnyH_ready (rs := [4]) (by kernel_rfl) (by simp) ?_
    refine AllReadyH.cons (o := ({ dst := some 9, op := Op.load 23 (Operand.tmp 8), type := 23, pos := "parse.go:149", after := #[{ on := 3, ground := Ground.data }], guard := none } : Oper)) rfl (fun K hK => ?_) AllReadyH.nil
    go_simp
    refine hK.out _ _ hS3 (fun _ => ?_)
    clear hK K hS3
    refine wpAnyH_ready (rs := [7]) (by kernel_rfl) (by simp) ?_
    refine AllReadyH.cons (o := ({ dst := some 12, op := Op.call { callee := Callee.builtin Builtin.append, args := #[Operand.tmp 9, Operand.tmp 11], argTypes := #[23, 23] }, type := 23, pos := "parse.go:149", after := #[{ on := 4, ground := Ground.data }, { on := 6, ground := Ground.data }], guard := none } : Oper)) rfl (fun K hK => ?_) AllReadyH.nil
    refine step_append_own rfl (.tmp 9) (.tmp 11) 23 rfl (R + 1) ndT i0 (.agg #[.int .i64 0, .string ⟨#[]⟩, .int .i64 0, .int .i64 0, .string ⟨#[]⟩, .bool false, .int .i64 0, .string ⟨#[]⟩, .string ⟨#[]⟩, .int .i64 0, .int .i64 0, .bool false, .bool false, .int .i64 0, .int .i64 0, .bool false, .bool false, .bool false, .slice none 0 0]) 19 184 Tryz.underlying23 hi hz0 hz1 hz2 rfl (by decide) tv nds.length (flatN ps) rfl (((unhide H2).alloc _).alloc _).drew ⟨w.heap.size + 1, 0, none⟩ 1 1 [.int .i64 kd, .string op, .int .i64 v1, .int .i64 v2, .string v3, .bool v4, .int .i64 v5, .string bk, .string sh, .int .i64 c1, .int .i64 r1, .bool f1, .bool g1, .int .i64 c2, .int .i64 r2, .bool f2, .bool g2, .bool wd, kv] rfl rfl (World.news_of_block (heap_alloc2_new _ _ _)) (unhide HI) (by unfold maxLen; omega) (by omega) (by simp; omega) ?_
    intro v' w1 hown' hgrow _
    obtain ⟨g', cap', rfl⟩ := owns_some hown' (by omega)
    have k3 : w1.cell? ⟨R, 1, none⟩ = some tv := hgrow.cell (unhide K1) (unhide NE)
    have f3 : w1.frozen? ⟨R, 1, none⟩ = false := (World.frozen?_of_block (hgrow.block R (unhide RW) (unhide NE))).trans (unhide F1)
    have HO := hide hown'
    have HG := hide hgrow
    have hS2 : w1.rangeAt w.heap.size 0 [.int .i64 kd, .string op, .int .i64 v1, .int .i64 v2, .string v3, .bool v4, .int .i64 v5, .string bk, .string sh, .int .i64 c1, .int .i64 r1, .bool f1, .bool g1, .int .i64 c2, .int .i64 r2, .bool f2, .bool g2, .bool wd, kv] := fun j v hv => hgrow.cell (unhide SB j v hv) (unhide NA)
    clear hown' hgrow
    refine hK.out _ _ hS2 (fun _ => ?_)
    clear hK K hS
    refine wpAnyH_take (i := 8) (oi := ({ dst := some 13, op := Op.nilCheck (Operand.tmp 5), type := 0, pos := "parse.go:149", after := #[{ on := 0, ground := Ground.data }, { on := 0, ground := Ground.phase }, { on := 1, ground := Ground.phase }, { on := 2, ground := Ground.phase }, { on := 3, ground := Ground.phase }, { on := 4, ground := Ground.phase }, { on := 5, ground := Ground.phase }, { on := 6, ground := Ground.phase }, { on := 7, ground := Ground.phase }], guard := none } : Oper)) (v := Value.pointer (some ⟨R, 0, none⟩)) rfl (by kernel_rfl) (by kernel_rfl) (by kernel_rfl) (fun _ _ _ h => h) (Or.inl ⟨by rfl, fun w hSw => by go_simp⟩) hS2 ?_
    refine wpAnyH_take (i := 9) (oi := ({ dst := some 14, op := Op.fieldAddr 82 (Operand.tmp 13) 1, type := 0, pos := "parse.go:149", after := #[{ on := 8, ground := Ground.data }, { on := 0, ground := Ground.phase }, { on := 1, ground := Ground.phase }, { on := 2, ground := Ground.phase }, { on := 3, ground := Ground.phase }, { on := 4, ground := Ground.phase }, { on := 5, ground := Ground.phase }, { on := 6, ground := Ground.phase }, { on := 7, ground := Ground.phase }], guard := none } : Oper)) (v := Value.pointer (some ⟨R, 1, none⟩)) rfl (by kernel_rfl) (by kernel_rfl) (by kernel_rfl) (fun _ _ _ h => h) (Or.inl ⟨by rfl, fun w hSw => by go_simp⟩) hS2 ?_
    refine wpAnyH_ready (rs := [10]) (by kernel_rfl) (by simp) ?_
    refine AllReadyH.cons (o := ({ dst := none, op := Op.store 23 (Operand.tmp 14) (Operand.tmp 12), type := 0, pos := "parse.go:149", after := #[{ on := 9, ground := Ground.data }, { on := 7, ground := Ground.data }, { on := 7, ground := Ground.chain }, { on := 0, ground := Ground.phase }, { on := 1, ground := Ground.phase }, { on := 2, ground := Ground.phase }, { on := 3, ground := Ground.phase }, { on := 4, ground := Ground.phase }, { on := 5, ground := Ground.phase }, { on := 6, ground := Ground.phase }, { on := 7, ground := Ground.phase }], guard := none } : Oper)) rfl (fun K hK => ?_) AllReadyH.nil
    go_simp
    refine hK.out _ _ (range_far hS2 (by omega)) (fun _ => ?_)
    clear hK K
    refine wpAnyH_done (by kernel_rfl) ?_ _
    have kk := World.cell?_setCell_same' w1 ⟨R, 1, none⟩ (.slice (some ⟨g', 0, none⟩) (nds.length + 1) cap') (by rw [k3]; rfl)
    go_wp2
    refine bodyPost_ret (v := .int .i64 (nds.length : Nat)) (results_t1 rfl _ _ _ rfl) rfl ⟨rfl, .slice (some ⟨g', 0, none⟩) (nds.length + 1) cap', ?_⟩
    exact put_fin (nd := ⟨kd, op, ⟨v1, v2, v3, v4, v5⟩, ⟨bk, sh, ⟨c1, r1, f1, g1⟩, ⟨c2, r2, f2, g2⟩, wd⟩, ks⟩) (kv := kv) (unhide HH) (below_al2 _ _ _).drew (unhide H1) (unhide H2) (unhide H3) (unhide HK) (unhide HO) (unhide HG)
end Go.Proofs.YtloamahbghjjgaaGreatDoor
