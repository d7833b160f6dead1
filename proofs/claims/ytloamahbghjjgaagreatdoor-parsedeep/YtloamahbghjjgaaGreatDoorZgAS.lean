/- The contract of the program's stands. -/
import Derived.BigQuiet
import Derived.BigRegion
import Derived.Deep.AppendLies
import Derived.Deep.CutBlock
import Derived.Deep.CutRange
import Derived.Deep.DeepFit
import Derived.Deep.MidRow
import Derived.Deep.QuietTactic
import Derived.Deep.RegionHeld3
import Derived.Deep.RegionLaw
import Derived.Deep.RegionWith
import Derived.Deep.WholeRow
import Derived.Great.BuildSlice
import Derived.Laws.Bits64b
import Derived.Laws.CopyOwn
import Derived.Laws.IdiomStrings
import Derived.Laws.OwnMore
import Derived.Laws.Rows
import Derived.Laws.StructEq
import Derived.Laws.Tables
import Derived.Lib.Atoi
import Derived.Lib.AtoiErrMem
import Derived.Lib.BitFns
import Derived.Lib.CutLaws
import Derived.Lib.IndexMore
import Derived.Lib.ItoaMem
import Derived.Lib.ItoaNum
import Derived.Lib.Join
import Derived.Lib.Replace
import Derived.Lib.Walk
import Derived.Shelf.Bits.Mul64
import Derived.Shelf.LaysM
import Derived.Shelf.Small.Bits
import Derived.Shelf.Small.Strs
import Derived.Shelf.Small.Utf8
import Derived.Shelf.Small.Wraps
import Derived.Shelf.Strconv.Atoi
import Derived.Shelf.Strconv.Itoa0
import Derived.Shelf.Strconv.Itoa1
import Derived.Shelf.Strconv.Itoa2
import Derived.Shelf.Strconv.Itoa3
import Derived.Shelf.Strings.AsciiSet
import Derived.Shelf.Strings.Builder1
import Derived.Shelf.Strings.Builder2
import Derived.Shelf.Strings.Count
import Derived.Shelf.Strings.Cut
import Derived.Shelf.Strings.OnBuilder
import Derived.Shelf.Strings.Prefix
import Derived.Shelf.Strings.Replace
import Derived.Shelf.Strings.Runes
import Derived.Shelf.Strings.Search1
import Derived.Shelf.Strings.Search2
import Derived.Shelf.Strings.Search3
import Derived.Shelf.Strings.Shaped
import Derived.Shelf.Strings.Split
import Derived.Shelf.Strings.SplitShaped
import Derived.Shelf.Strings.Trim
import Derived.Shelf.Unicode.DecodeSlow
import Derived.Test.YtloamahbghjjgaaGreatDoorProg
import Derived.Test.YtloamahbghjjgaaGreatDoorRows
import Derived.WalkKit
import Derived.WalkLawsBesides
import Derived.WalkSmall
import Derived.WalkSpells
import Derived.Test.YtloamahbghjjgaaGreatDoorZgAA
import Derived.Test.YtloamahbghjjgaaGreatDoorZgAB
import Derived.Test.YtloamahbghjjgaaGreatDoorZgAC
import Derived.Test.YtloamahbghjjgaaGreatDoorZgAD
import Derived.Test.YtloamahbghjjgaaGreatDoorZgAE
import Derived.Test.YtloamahbghjjgaaGreatDoorZgAF
import Derived.Test.YtloamahbghjjgaaGreatDoorZgAG
import Derived.Test.YtloamahbghjjgaaGreatDoorZgAH
import Derived.Test.YtloamahbghjjgaaGreatDoorZgAI
import Derived.Test.YtloamahbghjjgaaGreatDoorZgAJ
import Derived.Test.YtloamahbghjjgaaGreatDoorZgAK
import Derived.Test.YtloamahbghjjgaaGreatDoorZgAL
import Derived.Test.YtloamahbghjjgaaGreatDoorZgAM
import Derived.Test.YtloamahbghjjgaaGreatDoorZgAN
import Derived.Test.YtloamahbghjjgaaGreatDoorZgAO
import Derived.Test.YtloamahbghjjgaaGreatDoorZgAP
import Derived.Test.YtloamahbghjjgaaGreatDoorZgAQ
import Derived.Test.YtloamahbghjjgaaGreatDoorZgAR
namespace Go.Proofs.YtloamahbghjjgaaGreatDoor
open Go.RowKit

abbrev zNd : Array Value := #[.int .i64 0, .string ⟨#[]⟩, .int .i64 0, .int .i64 0, .string ⟨#[]⟩, .bool false, .int .i64 0, .string ⟨#[]⟩, .string ⟨#[]⟩, .int .i64 0, .int .i64 0, .bool false, .bool false, .int .i64 0, .int .i64 0, .bool false, .bool false, .bool false, .slice none 0 0]
theorem nd_new (w : World) (n : Nd) (kv : Value) (hkv : kv.oneCell' = true) : (storeCells ⟨w.heap.size, 0, none⟩ (n.cells kv).toList 0).run Tryz.prog (w.alloc (.cells #[.int .i64 0, .string ⟨#[]⟩, .int .i64 0, .int .i64 0, .string ⟨#[]⟩, .bool false, .int .i64 0, .string ⟨#[]⟩, .string ⟨#[]⟩, .int .i64 0, .int .i64 0, .bool false, .bool false, .int .i64 0, .int .i64 0, .bool false, .bool false, .bool false, .slice none 0 0] 55)) = .ok () (w.alloc (.cells (n.cells kv) 55)) :=
  run_storeCells_new w ndT zNd (n.cells kv) infoNs rfl (by
    have := (nd_row n kv hkv).2
    rw [Array.all_eq_true_iff_forall_mem]
    intro v hv
    exact this v (by simpa using hv))
theorem nd_range {w : World} {g o : Nat} {n : Nd} {kv : Value} (h : ∀ (j : Nat) (u : Value), (n.cells kv)[j]? = some u → w.cell? ⟨g, o + j, none⟩ = some u) : w.rangeAt g o (n.cells kv).toList := fun j v hv => h j v (by simpa using hv)
theorem ints_drop {w : World} {g off : Nat} {ks : List Int} (h : IntsIn w (some ⟨g, off, none⟩) ks) (f : Nat) : IntsIn w (some ⟨g, off + f, none⟩) (ks.drop f) := by
  rcases h with h | ⟨g', off', he, hg, hc⟩
  · exact Or.inl (by rw [h]; simp)
  · cases he
    refine Or.inr ⟨g, off + f, rfl, hg, fun i k hi => ?_⟩
    rw [List.getElem?_drop] at hi
    have := hc (f + i) k hi
    rw [show off + f + i = off + (f + i) by omega]
    exact this
theorem stk_step {t : List (List Int)} {k : Nat} {fl : List Int} {ks : List Int} (hk : t[k]? = some ks) :
    stkF (t.drop k) k fl = if fl.length < ks.length then none else if fl.drop (fl.length - ks.length) = ks then stkF (t.drop (k + 1)) (k + 1) (fl.take (fl.length - ks.length) ++ [(k : Int)]) else none := by
  have hlt := (List.getElem?_eq_some_iff.1 hk).1
  have : t.drop k = ks :: t.drop (k + 1) := by
    rw [List.drop_eq_getElem_cons hlt, (List.getElem?_eq_some_iff.1 hk).2]
  rw [this, stkF]
set_option maxRecDepth 100000 in
set_option maxHeartbeats 4000000 in
theorem stands_val (a : Option Addr) (cap : Nat) (nds : List Nd) (w : World) (hn : NodesIn w a nds) (hl : nds.length ≤ 1000) (hkl : ∀ n ∈ nds, n.kids.length ≤ 1000) :
    Calls Tryz.prog 74 #[.slice a nds.length cap] w fun e w' => e = .returned (.bool (standsB (nds.map (·.kids)))) ∧ Below w.heap.size w w' := by
  obtain ⟨i0, hi, hz0, hz1, hz2⟩ := info_parts infoInt
  have HN := hide hn
  have HKL := hide hkl
  clear hn hkl
  obtain ⟨t, ht⟩ : ∃ t, nds.map (·.kids) = t := ⟨_, rfl⟩
  have HT := hide ht
  obtain ⟨sb, hsb⟩ : ∃ sb, standsB t = sb := ⟨_, rfl⟩
  have HSB := hide hsb
  rw [ht, hsb]
  clear ht hsb
  obtain ⟨n, hnl⟩ : ∃ n, nds.length = n := ⟨_, rfl⟩
  have HNL := hide hnl
  rw [hnl] at hl ⊢
  clear hnl
  go_enter Tryz.func74, Tryz.ntmps74
  go_wp2_with fail
  go_loopw [3, 9] (fun fv v wr => ∃ (k : Nat) (fl : List Int) (fa : Option Addr) (fc : Nat), v = .int .i64 (k : Int) ∧ k ≤ n ∧ fv = .slice fa fl.length fc ∧ fl.length ≤ k ∧ Hid (stkF (t.drop k) k fl = stkF t 0 []) ∧ Hid (wr.ownsRow w.heap.size 3 1 fv fl.length (fl.map fun k => Value.int .i64 k)) ∧ Hid (Below w.heap.size w wr)) (fun _ v _ => n - (intOf v).toNat)
  case atStart => exact ⟨0, [], none, 0, rfl, by omega, rfl, Nat.le_refl _, hide rfl, hide (World.ownsRow_nil _ _ _ _), hide (Below.refl _ _)⟩
  case round =>
    obtain ⟨k, fl, fa, fc, rfl, hk, rfl, hfk, HS, HO, HB⟩ := hrel
    by_cases hlt : k < n
    · have hlti : (k : Int) < (n : Int) := by omega
      obtain ⟨nd, hnd⟩ : ∃ nd, nds[k]? = some nd := ⟨nds[k]'(by rw [unhide HNL]; exact hlt), List.getElem?_eq_getElem (by rw [unhide HNL]; exact hlt)⟩
      obtain ⟨g, off, ka, kcap, rfl, hg, hkc, hki, hcells⟩ := node_at (nodesIn_below (unhide HN) (unhide HB)) k nd hnd
      have HSK := hide (stk_step (t := t) (k := k) (fl := fl) (ks := nd.kids) (by rw [← unhide HT, List.getElem?_map, hnd]; rfl))
      have hk1 : nd.kids.length ≤ 1000 := unhide HKL nd (List.mem_of_getElem? hnd)
      have HCR := hide (nd_range hcells)
      have HKI := hide hki
      have zN : (nd.cells (.slice ka nd.kids.length kcap)).size = 19 := rfl
      have st := nd_new wr nd (.slice ka nd.kids.length kcap) rfl
      have C5 := hide (cells_new wr ndT (nd.cells (.slice ka nd.kids.length kcap)))
      have x18 : (wr.alloc (.cells (nd.cells (.slice ka nd.kids.length kcap)) 55)).cell? ⟨wr.heap.size, 18, none⟩ = some (.slice ka nd.kids.length kcap) := cells_c (cells_new wr ndT (nd.cells (.slice ka nd.kids.length kcap))) 18 _ rfl
      obtain ⟨c, hc⟩ : ∃ c, nd.kids.length = c := ⟨_, rfl⟩
      obtain ⟨cs, hcs⟩ : ∃ cs, nd.cells (.slice ka nd.kids.length kcap) = cs := ⟨_, rfl⟩
      have HCN := hide hc
      rw [hcs] at HCR zN st x18
      rw [hc] at x18 hk1 hkc
      clear hcells hnd hki C5 hcs
      have HIN : Hid ((Tryz.prog.info? 55).map (·.size) = some cs.toList.length) := hide (by rw [infoNs, Array.length_toList, zN])
      obtain ⟨m, hm⟩ : ∃ m, fl.length = m := ⟨_, rfl⟩
      have HM := hide hm
      rw [hm] at hfk HO ⊢
      rw [hm, hc] at HSK
      clear hm hc
      have HBA := hide (below_nx (unhide HB) (below_al wr (.cells cs 55)))
      by_cases hmc : m < c
      · have hmi : ((m : Int) - (c : Int)) < 0 := by omega
        have HF : Hid (sb = false) := hide (by
          rw [← unhide HSB]
          unfold standsB
          rw [← unhide HS, unhide HSK, if_pos hmc])
        clear hmc
        go_wp2_with (refine wpList_load_mid rfl 55 _ rfl g (off + k * 19) rfl cs.toList _ (unhide HCR) Tryz.underlying55 rfl (unhide HIN) ?_)
        go_quiet (fail)
        go_wp2
        go_ret
        exact ⟨by rw [unhide HF]; rfl, below_drewN (unhide HBA) _⟩
      · obtain ⟨f, hf⟩ : ∃ f, m - c = f := ⟨_, rfl⟩
        have hmi : ((m : Int) - (c : Int)) = (f : Int) := by omega
        have hmf : m - f = c := by omega
        have hfm : f ≤ m := by omega
        have hf0 : ¬ (f : Int) < 0 := by omega
        rw [if_neg hmc, hf] at HSK
        clear hmc hf
        have HI1 := hide (ints_of_owns (unhide HO))
        rcases (unhide HO).2 with ⟨hnil, h0⟩ | ⟨g2, cap2, cur2, hsome, hg2, hh2, hc2, hm2, hs2, ht2⟩
        · cases hnil
          have hf00 : f = 0 := by omega
          have hc00 : c = 0 := by omega
          subst hf00 hc00
          clear HI1 h0 hmi hmf hfm hf0
          have hmf : 0 - 0 = 0 := rfl
          have HI2 : Hid (IntsIn wr none (fl.drop 0)) := hide (Or.inl (List.eq_nil_of_length_eq_zero (by rw [List.length_drop, unhide HM])))
          have HEQ := hide (fun w2 (h1 : IntsIn w2 (none) (fl.drop 0)) (h2 : IntsIn w2 ka nd.kids) => sequal_val (none) ka (0) kcap (fl.drop 0) nd.kids w2 h1 h2 (by rw [List.length_drop, unhide HM]; omega))
          rw [List.length_drop, unhide HM, unhide HCN, hmf] at HEQ
          obtain ⟨eq, heq⟩ : ∃ eq, decide (fl.drop 0 = nd.kids) = eq := ⟨_, rfl⟩
          rw [heq] at HEQ
          have HE := hide heq
          clear heq
          have HID := hide (ints_below (unhide HI2) (below_nx (below_al wr (.cells cs 55)) (Below.refl _ _).drew))
          have HKD := hide (ints_below (unhide HKI) (below_nx (below_al wr (.cells cs 55)) (Below.refl _ _).drew))
          have HOD := hide (((unhide HO).alloc (.cells cs 55)).drew)
          go_wp2_with (refine wpList_load_mid rfl 55 _ rfl g (off + k * 19) rfl cs.toList _ (unhide HCR) Tryz.underlying55 rfl (unhide HIN) ?_)
          clear st
          have x18' : (wr.alloc (.cells cs 55)).drew.cell? ⟨wr.heap.size, 18, none⟩ = some (.slice ka 0 kcap) := x18
          have hN1 : wr.heap.size < (wr.alloc (.cells cs 55)).heap.size := by simp
          generalize hW : wr.alloc (.cells cs 55) = W1 at HID HKD HOD x18 x18' HBA hN1 ⊢
          clear hW
          generalize hNN : wr.heap.size = N1 at x18 x18' hN1 ⊢
          clear x18
          refine wp_region_held_drew (S := fun w' => w'.cell? ⟨N1, 18, none⟩ = some (.slice ka 0 kcap)) (by kernel_rfl) x18' (fun hS => ?_)
          refine wpAnyH_take (i := 0) (oi := ({ dst := some 20, op := Op.move (Operand.tmp 6), type := 3, pos := "parse.go:322", after := #[], guard := none } : Oper)) (v := Value.int IntKind.i64 0) rfl (by kernel_rfl) (by kernel_rfl) (by kernel_rfl) (fun _ _ _ h => h) (Or.inl ⟨by rfl, fun w hSw => by (try dsimp only at hSw); go_simp⟩) hS ?_
          refine wpAnyH_take (i := 1) (oi := ({ dst := some 21, op := Op.binOp BinOp.lss 3 (Operand.tmp 20) (Operand.const (Value.int IntKind.i64 0)) 3, type := 4, pos := "parse.go:322", after := #[{ on := 0, ground := Ground.data }], guard := none } : Oper)) (v := Value.bool false) rfl (by kernel_rfl) (by kernel_rfl) (by kernel_rfl) (fun _ _ _ h => h) (Or.inl ⟨by rfl, fun w hSw => by (try dsimp only at hSw); go_simp⟩) hS ?_
          refine wpAnyH_take (i := 2) (oi := ({ dst := some 22, op := Op.move (Operand.tmp 21), type := 4, pos := "parse.go:322", after := #[{ on := 1, ground := Ground.data }], guard := none } : Oper)) (v := Value.bool false) rfl (by kernel_rfl) (by kernel_rfl) (by kernel_rfl) (fun _ _ _ h => h) (Or.inl ⟨by rfl, fun w hSw => by (try dsimp only at hSw); go_simp⟩) hS ?_
          refine wpAnyH_take (i := 3) (oi := ({ dst := some 23, op := Op.move (Operand.tmp 3), type := 53, pos := "parse.go:322", after := #[{ on := 2, ground := Ground.guard }], guard := some (2, false) } : Oper)) (v := Value.slice none 0 0) rfl (by kernel_rfl) (by kernel_rfl) (by kernel_rfl) (fun _ _ _ h => h) (Or.inl ⟨by rfl, fun w hSw => by (try dsimp only at hSw); go_simp⟩) hS ?_
          refine wpAnyH_take (i := 4) (oi := ({ dst := some 24, op := Op.move (Operand.tmp 6), type := 3, pos := "parse.go:322", after := #[{ on := 2, ground := Ground.guard }], guard := some (2, false) } : Oper)) (v := Value.int IntKind.i64 0) rfl (by kernel_rfl) (by kernel_rfl) (by kernel_rfl) (fun _ _ _ h => h) (Or.inl ⟨by rfl, fun w hSw => by (try dsimp only at hSw); go_simp⟩) hS ?_
          refine wpAnyH_take (i := 5) (oi := ({ dst := some 25, op := Op.slice 53 (Operand.tmp 23) (some (Operand.tmp 24)) none none, type := 53, pos := "parse.go:322", after := #[{ on := 3, ground := Ground.data }, { on := 4, ground := Ground.data }, { on := 2, ground := Ground.guard }], guard := some (2, false) } : Oper)) (v := Value.slice (none) 0 (0)) rfl (by kernel_rfl) (by kernel_rfl) (by kernel_rfl) (fun _ _ _ h => h) (Or.inl ⟨by rfl, fun w hSw => by (try dsimp only at hSw); go_simp⟩) hS ?_
          refine wpAnyH_take (i := 6) (oi := ({ dst := some 26, op := Op.fieldAddr 55 (Operand.tmp 5) 4, type := 0, pos := "parse.go:322", after := #[{ on := 2, ground := Ground.guard }], guard := some (2, false) } : Oper)) (v := Value.pointer (some ⟨N1, 18, none⟩)) rfl (by kernel_rfl) (by kernel_rfl) (by kernel_rfl) (fun _ _ _ h => h) (Or.inl ⟨by rfl, fun w hSw => by (try dsimp only at hSw); go_simp⟩) hS ?_
          refine wpAnyH_take (i := 7) (oi := ({ dst := some 27, op := Op.load 53 (Operand.tmp 26), type := 53, pos := "parse.go:322", after := #[{ on := 6, ground := Ground.data }, { on := 2, ground := Ground.guard }], guard := some (2, false) } : Oper)) (v := Value.slice ka 0 kcap) rfl (by kernel_rfl) (by kernel_rfl) (by kernel_rfl) (fun _ _ _ h => h) (Or.inl ⟨by rfl, fun w hSw => by (try dsimp only at hSw); go_simp⟩) hS ?_
          refine wpAnyH_ready (rs := [8]) (by kernel_rfl) (by simp) ?_
          refine AllReadyH.cons (o := ({ dst := some 28, op := Op.call { callee := Callee.value (Operand.func 121), args := #[Operand.tmp 25, Operand.tmp 27], argTypes := #[53, 53] }, type := 4, pos := "parse.go:322", after := #[{ on := 5, ground := Ground.data }, { on := 7, ground := Ground.data }, { on := 2, ground := Ground.chain }, { on := 2, ground := Ground.guard }], guard := some (2, false) } : Oper)) rfl (fun K hK => ?_) AllReadyH.nil
          go_simp
          refine (unhide HEQ _ (unhide HID) (unhide HKD)).mono ?_
          rintro e w2 ⟨rfl, b2⟩
          have HB2 := hide (below_nx ((unhide HBA).drew) b2)
          have HO2 := hide (owns_grown (unhide HOD) (fun k hk _ => b2.block k hk))
          have hS2 : w2.cell? ⟨N1, 18, none⟩ = some (.slice ka 0 kcap) := by rw [b2.cell (p := ⟨N1, 18, none⟩) hN1]; exact x18'
          clear b2
          go_wp2_with fail
          refine hK.out _ _ hS2 (fun _ => ?_)
          clear hK K hS
          have hS := hS2
          refine wpAnyH_take (i := 9) (oi := ({ dst := some 29, op := Op.unOp UnOp.not 4 (Operand.tmp 28), type := 4, pos := "parse.go:322", after := #[{ on := 8, ground := Ground.data }, { on := 2, ground := Ground.guard }], guard := some (2, false) } : Oper)) (v := Value.bool (!eq)) rfl (by kernel_rfl) (by kernel_rfl) (by kernel_rfl) (fun _ _ _ h => h) (Or.inl ⟨by rfl, fun w hSw => by (try dsimp only at hSw); go_simp⟩) hS ?_
          refine wpAnyH_take (i := 10) (oi := ({ dst := some 30, op := Op.pick (Operand.tmp 22) (Operand.const (Value.bool true)) (Operand.tmp 29), type := 4, pos := "parse.go:322", after := #[{ on := 2, ground := Ground.data }, { on := 9, ground := Ground.data }], guard := none } : Oper)) (v := Value.bool (!eq)) rfl (by kernel_rfl) (by kernel_rfl) (by kernel_rfl) (fun _ _ _ h => h) (Or.inl ⟨by rfl, fun w hSw => by (try dsimp only at hSw); go_simp⟩) hS ?_
          refine wpAnyH_done (by kernel_rfl) ?_ _
          cases eq with
          | false =>
            have HF : Hid (sb = false) := hide (by
              rw [← unhide HSB]
              unfold standsB
              rw [← unhide HS, unhide HSK, if_neg (of_decide_eq_false (unhide HE))])
            go_wp2
            go_ret
            exact ⟨by rw [unhide HF]; rfl, unhide HB2⟩
          | true =>
            have HS2 : Hid (stkF (t.drop (k + 1)) (k + 1) (fl.take 0 ++ [(k : Int)]) = stkF t 0 []) := hide (by
              rw [← unhide HS, unhide HSK, if_pos (of_decide_eq_true (unhide HE))])
            obtain ⟨ta, tcap, hte, _, _, hto⟩ := owns_take (unhide HO2) (show 0 ≤ 0 by omega)
            have hte2 : ta = none ∧ 0 = tcap := by cases hte; exact ⟨rfl, rfl⟩
            obtain ⟨rfl, rfl⟩ := hte2
            have HTO := hide hto
            have hsz := (unhide HB2).size
            have HMW := unhide HM
            clear hte hto
            go_wp2_with (at_builtin; refine wpList_append_own _ rfl _ _ 53 rfl w.heap.size 3 i0 (.int .i64 0) 1 8 Tryz.underlying53 hi hz0 hz1 hz2 rfl (by decide) _ _ _ rfl ((unhide HTO).alloc _) ⟨w2.heap.size, 0, none⟩ 1 1 [.int .i64 (k : Int)] rfl rfl (World.news_of_block (heap_alloc_new _ _)) (by simp [Value.oneCell']) (by unfold maxLen; omega) (by omega) (by simp; omega) ?_)
            intro v' w3 hown' hgrow _
            obtain ⟨g', cap', rfl⟩ := owns_some hown' (by omega)
            have hlen' : (fl.take 0 ++ [(k : Int)]).length = 0 + 1 := by rw [List.length_append, List.length_take, List.length_singleton]; omega
            have HO3 : Hid (w3.ownsRow w.heap.size 3 1 (.slice (some ⟨g', 0, none⟩) (1) cap') (fl.take 0 ++ [(k : Int)]).length ((fl.take 0 ++ [(k : Int)]).map fun k => Value.int .i64 k)) := hide (by
              rw [hlen', List.map_append, List.map_take]
              exact hown')
            have HB3 : Hid (Below w.heap.size w w3) := hide ((below_nx (unhide HB2) (below_al w2 (.cells #[.int .i64 (k : Int)] 3))).grown hgrow (by simp; omega) (fun j hj => by
              have := ((unhide HTO).lt j hj).1
              exact this))
            have HLN := hide hlen'
            clear hown' hgrow hlen' HMW
            go_wp2
            go_roundw
            case rel => exact ⟨k + 1, fl.take 0 ++ [(k : Int)], some ⟨g', 0, none⟩, cap', by go_num, by omega, by rw [unhide HLN], by rw [unhide HLN]; omega, HS2, HO3, HB3⟩
            case measure => simp [intOf]; omega
        · cases hsome
          have HI : Hid (IntsIn wr (some ⟨g2, 0, none⟩) fl) := hide (by
            obtain ⟨ia, icap, hie, _, _, hI⟩ := unhide HI1
            cases hie
            exact hI)
          clear HI1 hh2 hs2 ht2 hg2
          by_cases hcf : fc = f
          · have hm00 : m = f := by omega
            have hc00 : c = 0 := by omega
            subst hcf hm00 hc00
            have HI2 : Hid (IntsIn wr (some ⟨g2, 0, none⟩) (fl.drop m)) := hide (Or.inl (List.eq_nil_of_length_eq_zero (by rw [List.length_drop, unhide HM]; omega)))
            have HEQ := hide (fun w2 (h1 : IntsIn w2 (some ⟨g2, 0, none⟩) (fl.drop m)) (h2 : IntsIn w2 ka nd.kids) => sequal_val (some ⟨g2, 0, none⟩) ka (0) kcap (fl.drop m) nd.kids w2 h1 h2 (by rw [List.length_drop, unhide HM]; omega))
            rw [List.length_drop, unhide HM, unhide HCN, hmf] at HEQ
            obtain ⟨eq, heq⟩ : ∃ eq, decide (fl.drop m = nd.kids) = eq := ⟨_, rfl⟩
            rw [heq] at HEQ
            have HE := hide heq
            clear heq
            have HID := hide (ints_below (unhide HI2) (below_nx (below_al wr (.cells cs 55)) (Below.refl _ _).drew))
            have HKD := hide (ints_below (unhide HKI) (below_nx (below_al wr (.cells cs 55)) (Below.refl _ _).drew))
            have HOD := hide (((unhide HO).alloc (.cells cs 55)).drew)
            go_wp2_with (refine wpList_load_mid rfl 55 _ rfl g (off + k * 19) rfl cs.toList _ (unhide HCR) Tryz.underlying55 rfl (unhide HIN) ?_)
            clear st
            have x18' : (wr.alloc (.cells cs 55)).drew.cell? ⟨wr.heap.size, 18, none⟩ = some (.slice ka 0 kcap) := x18
            have hN1 : wr.heap.size < (wr.alloc (.cells cs 55)).heap.size := by simp
            generalize hW : wr.alloc (.cells cs 55) = W1 at HID HKD HOD x18 x18' HBA hN1 ⊢
            clear hW
            generalize hNN : wr.heap.size = N1 at x18 x18' hN1 ⊢
            clear x18
            refine wp_region_held_drew (S := fun w' => w'.cell? ⟨N1, 18, none⟩ = some (.slice ka 0 kcap)) (by kernel_rfl) x18' (fun hS => ?_)
            refine wpAnyH_take (i := 0) (oi := ({ dst := some 20, op := Op.move (Operand.tmp 6), type := 3, pos := "parse.go:322", after := #[], guard := none } : Oper)) (v := Value.int IntKind.i64 (m : Int)) rfl (by kernel_rfl) (by kernel_rfl) (by kernel_rfl) (fun _ _ _ h => h) (Or.inl ⟨by rfl, fun w hSw => by (try dsimp only at hSw); go_simp⟩) hS ?_
            refine wpAnyH_take (i := 1) (oi := ({ dst := some 21, op := Op.binOp BinOp.lss 3 (Operand.tmp 20) (Operand.const (Value.int IntKind.i64 0)) 3, type := 4, pos := "parse.go:322", after := #[{ on := 0, ground := Ground.data }], guard := none } : Oper)) (v := Value.bool false) rfl (by kernel_rfl) (by kernel_rfl) (by kernel_rfl) (fun _ _ _ h => h) (Or.inl ⟨by rfl, fun w hSw => by (try dsimp only at hSw); go_simp⟩) hS ?_
            refine wpAnyH_take (i := 2) (oi := ({ dst := some 22, op := Op.move (Operand.tmp 21), type := 4, pos := "parse.go:322", after := #[{ on := 1, ground := Ground.data }], guard := none } : Oper)) (v := Value.bool false) rfl (by kernel_rfl) (by kernel_rfl) (by kernel_rfl) (fun _ _ _ h => h) (Or.inl ⟨by rfl, fun w hSw => by (try dsimp only at hSw); go_simp⟩) hS ?_
            refine wpAnyH_take (i := 3) (oi := ({ dst := some 23, op := Op.move (Operand.tmp 3), type := 53, pos := "parse.go:322", after := #[{ on := 2, ground := Ground.guard }], guard := some (2, false) } : Oper)) (v := Value.slice (some ⟨g2, 0, none⟩) m m) rfl (by kernel_rfl) (by kernel_rfl) (by kernel_rfl) (fun _ _ _ h => h) (Or.inl ⟨by rfl, fun w hSw => by (try dsimp only at hSw); go_simp⟩) hS ?_
            refine wpAnyH_take (i := 4) (oi := ({ dst := some 24, op := Op.move (Operand.tmp 6), type := 3, pos := "parse.go:322", after := #[{ on := 2, ground := Ground.guard }], guard := some (2, false) } : Oper)) (v := Value.int IntKind.i64 (m : Int)) rfl (by kernel_rfl) (by kernel_rfl) (by kernel_rfl) (fun _ _ _ h => h) (Or.inl ⟨by rfl, fun w hSw => by (try dsimp only at hSw); go_simp⟩) hS ?_
            refine wpAnyH_take (i := 5) (oi := ({ dst := some 25, op := Op.slice 53 (Operand.tmp 23) (some (Operand.tmp 24)) none none, type := 53, pos := "parse.go:322", after := #[{ on := 3, ground := Ground.data }, { on := 4, ground := Ground.data }, { on := 2, ground := Ground.guard }], guard := some (2, false) } : Oper)) (v := Value.slice (some ⟨g2, 0, none⟩) 0 (0)) rfl (by kernel_rfl) (by kernel_rfl) (by kernel_rfl) (fun _ _ _ h => h) (Or.inl ⟨by rfl, fun w hSw => by (try dsimp only at hSw); go_simp⟩) hS ?_
            refine wpAnyH_take (i := 6) (oi := ({ dst := some 26, op := Op.fieldAddr 55 (Operand.tmp 5) 4, type := 0, pos := "parse.go:322", after := #[{ on := 2, ground := Ground.guard }], guard := some (2, false) } : Oper)) (v := Value.pointer (some ⟨N1, 18, none⟩)) rfl (by kernel_rfl) (by kernel_rfl) (by kernel_rfl) (fun _ _ _ h => h) (Or.inl ⟨by rfl, fun w hSw => by (try dsimp only at hSw); go_simp⟩) hS ?_
            refine wpAnyH_take (i := 7) (oi := ({ dst := some 27, op := Op.load 53 (Operand.tmp 26), type := 53, pos := "parse.go:322", after := #[{ on := 6, ground := Ground.data }, { on := 2, ground := Ground.guard }], guard := some (2, false) } : Oper)) (v := Value.slice ka 0 kcap) rfl (by kernel_rfl) (by kernel_rfl) (by kernel_rfl) (fun _ _ _ h => h) (Or.inl ⟨by rfl, fun w hSw => by (try dsimp only at hSw); go_simp⟩) hS ?_
            refine wpAnyH_ready (rs := [8]) (by kernel_rfl) (by simp) ?_
            refine AllReadyH.cons (o := ({ dst := some 28, op := Op.call { callee := Callee.value (Operand.func 121), args := #[Operand.tmp 25, Operand.tmp 27], argTypes := #[53, 53] }, type := 4, pos := "parse.go:322", after := #[{ on := 5, ground := Ground.data }, { on := 7, ground := Ground.data }, { on := 2, ground := Ground.chain }, { on := 2, ground := Ground.guard }], guard := some (2, false) } : Oper)) rfl (fun K hK => ?_) AllReadyH.nil
            go_simp
            refine (unhide HEQ _ (unhide HID) (unhide HKD)).mono ?_
            rintro e w2 ⟨rfl, b2⟩
            have HB2 := hide (below_nx ((unhide HBA).drew) b2)
            have HO2 := hide (owns_grown (unhide HOD) (fun k hk _ => b2.block k hk))
            have hS2 : w2.cell? ⟨N1, 18, none⟩ = some (.slice ka 0 kcap) := by rw [b2.cell (p := ⟨N1, 18, none⟩) hN1]; exact x18'
            clear b2
            go_wp2_with fail
            refine hK.out _ _ hS2 (fun _ => ?_)
            clear hK K hS
            have hS := hS2
            refine wpAnyH_take (i := 9) (oi := ({ dst := some 29, op := Op.unOp UnOp.not 4 (Operand.tmp 28), type := 4, pos := "parse.go:322", after := #[{ on := 8, ground := Ground.data }, { on := 2, ground := Ground.guard }], guard := some (2, false) } : Oper)) (v := Value.bool (!eq)) rfl (by kernel_rfl) (by kernel_rfl) (by kernel_rfl) (fun _ _ _ h => h) (Or.inl ⟨by rfl, fun w hSw => by (try dsimp only at hSw); go_simp⟩) hS ?_
            refine wpAnyH_take (i := 10) (oi := ({ dst := some 30, op := Op.pick (Operand.tmp 22) (Operand.const (Value.bool true)) (Operand.tmp 29), type := 4, pos := "parse.go:322", after := #[{ on := 2, ground := Ground.data }, { on := 9, ground := Ground.data }], guard := none } : Oper)) (v := Value.bool (!eq)) rfl (by kernel_rfl) (by kernel_rfl) (by kernel_rfl) (fun _ _ _ h => h) (Or.inl ⟨by rfl, fun w hSw => by (try dsimp only at hSw); go_simp⟩) hS ?_
            refine wpAnyH_done (by kernel_rfl) ?_ _
            cases eq with
            | false =>
              have HF : Hid (sb = false) := hide (by
                rw [← unhide HSB]
                unfold standsB
                rw [← unhide HS, unhide HSK, if_neg (of_decide_eq_false (unhide HE))])
              go_wp2
              go_ret
              exact ⟨by rw [unhide HF]; rfl, unhide HB2⟩
            | true =>
              have HS2 : Hid (stkF (t.drop (k + 1)) (k + 1) (fl.take m ++ [(k : Int)]) = stkF t 0 []) := hide (by
                rw [← unhide HS, unhide HSK, if_pos (of_decide_eq_true (unhide HE))])
              obtain ⟨ta, tcap, hte, _, _, hto⟩ := owns_take (unhide HO2) (show m ≤ m by omega)
              have hte2 : ta = some ⟨g2, 0, none⟩ ∧ m = tcap := by cases hte; exact ⟨rfl, rfl⟩
              obtain ⟨rfl, rfl⟩ := hte2
              have HTO := hide hto
              have hsz := (unhide HB2).size
              have HMW := unhide HM
              clear hte hto
              go_wp2_with (at_builtin; refine wpList_append_own _ rfl _ _ 53 rfl w.heap.size 3 i0 (.int .i64 0) 1 8 Tryz.underlying53 hi hz0 hz1 hz2 rfl (by decide) _ _ _ rfl ((unhide HTO).alloc _) ⟨w2.heap.size, 0, none⟩ 1 1 [.int .i64 (k : Int)] rfl rfl (World.news_of_block (heap_alloc_new _ _)) (by simp [Value.oneCell']) (by unfold maxLen; omega) (by omega) (by simp; omega) ?_)
              intro v' w3 hown' hgrow _
              obtain ⟨g', cap', rfl⟩ := owns_some hown' (by omega)
              have hlen' : (fl.take m ++ [(k : Int)]).length = m + 1 := by rw [List.length_append, List.length_take, List.length_singleton]; omega
              have HO3 : Hid (w3.ownsRow w.heap.size 3 1 (.slice (some ⟨g', 0, none⟩) (m + 1) cap') (fl.take m ++ [(k : Int)]).length ((fl.take m ++ [(k : Int)]).map fun k => Value.int .i64 k)) := hide (by
                rw [hlen', List.map_append, List.map_take]
                exact hown')
              have HB3 : Hid (Below w.heap.size w w3) := hide ((below_nx (unhide HB2) (below_al w2 (.cells #[.int .i64 (k : Int)] 3))).grown hgrow (by simp; omega) (fun j hj => by
                have := ((unhide HTO).lt j hj).1
                exact this))
              have HLN := hide hlen'
              clear hown' hgrow hlen' HMW
              go_wp2
              go_roundw
              case rel => exact ⟨k + 1, fl.take m ++ [(k : Int)], some ⟨g', 0, none⟩, cap', by go_num, by omega, by rw [unhide HLN], by rw [unhide HLN]; omega, HS2, HO3, HB3⟩
              case measure => simp [intOf]; omega
          · have HI2 : Hid (IntsIn wr (some ⟨g2, f, none⟩) (fl.drop f)) := hide (by
              have := ints_drop (unhide HI) f
              rw [Nat.zero_add] at this
              exact this)
            have HEQ := hide (fun w2 (h1 : IntsIn w2 (some ⟨g2, f, none⟩) (fl.drop f)) (h2 : IntsIn w2 ka nd.kids) => sequal_val (some ⟨g2, f, none⟩) ka (fc - f) kcap (fl.drop f) nd.kids w2 h1 h2 (by rw [List.length_drop, unhide HM]; omega))
            rw [List.length_drop, unhide HM, unhide HCN, hmf] at HEQ
            obtain ⟨eq, heq⟩ : ∃ eq, decide (fl.drop f = nd.kids) = eq := ⟨_, rfl⟩
            rw [heq] at HEQ
            have HE := hide heq
            clear heq
            have HID := hide (ints_below (unhide HI2) (below_nx (below_al wr (.cells cs 55)) (Below.refl _ _).drew))
            have HKD := hide (ints_below (unhide HKI) (below_nx (below_al wr (.cells cs 55)) (Below.refl _ _).drew))
            have HOD := hide (((unhide HO).alloc (.cells cs 55)).drew)
            go_wp2_with (refine wpList_load_mid rfl 55 _ rfl g (off + k * 19) rfl cs.toList _ (unhide HCR) Tryz.underlying55 rfl (unhide HIN) ?_)
            clear st
            have x18' : (wr.alloc (.cells cs 55)).drew.cell? ⟨wr.heap.size, 18, none⟩ = some (.slice ka c kcap) := x18
            have hN1 : wr.heap.size < (wr.alloc (.cells cs 55)).heap.size := by simp
            generalize hW : wr.alloc (.cells cs 55) = W1 at HID HKD HOD x18 x18' HBA hN1 ⊢
            clear hW
            generalize hNN : wr.heap.size = N1 at x18 x18' hN1 ⊢
            clear x18
            refine wp_region_held_drew (S := fun w' => w'.cell? ⟨N1, 18, none⟩ = some (.slice ka c kcap)) (by kernel_rfl) x18' (fun hS => ?_)
            refine wpAnyH_take (i := 0) (oi := ({ dst := some 20, op := Op.move (Operand.tmp 6), type := 3, pos := "parse.go:322", after := #[], guard := none } : Oper)) (v := Value.int IntKind.i64 (f : Int)) rfl (by kernel_rfl) (by kernel_rfl) (by kernel_rfl) (fun _ _ _ h => h) (Or.inl ⟨by rfl, fun w hSw => by (try dsimp only at hSw); go_simp⟩) hS ?_
            refine wpAnyH_take (i := 1) (oi := ({ dst := some 21, op := Op.binOp BinOp.lss 3 (Operand.tmp 20) (Operand.const (Value.int IntKind.i64 0)) 3, type := 4, pos := "parse.go:322", after := #[{ on := 0, ground := Ground.data }], guard := none } : Oper)) (v := Value.bool false) rfl (by kernel_rfl) (by kernel_rfl) (by kernel_rfl) (fun _ _ _ h => h) (Or.inl ⟨by rfl, fun w hSw => by (try dsimp only at hSw); go_simp⟩) hS ?_
            refine wpAnyH_take (i := 2) (oi := ({ dst := some 22, op := Op.move (Operand.tmp 21), type := 4, pos := "parse.go:322", after := #[{ on := 1, ground := Ground.data }], guard := none } : Oper)) (v := Value.bool false) rfl (by kernel_rfl) (by kernel_rfl) (by kernel_rfl) (fun _ _ _ h => h) (Or.inl ⟨by rfl, fun w hSw => by (try dsimp only at hSw); go_simp⟩) hS ?_
            refine wpAnyH_take (i := 3) (oi := ({ dst := some 23, op := Op.move (Operand.tmp 3), type := 53, pos := "parse.go:322", after := #[{ on := 2, ground := Ground.guard }], guard := some (2, false) } : Oper)) (v := Value.slice (some ⟨g2, 0, none⟩) m fc) rfl (by kernel_rfl) (by kernel_rfl) (by kernel_rfl) (fun _ _ _ h => h) (Or.inl ⟨by rfl, fun w hSw => by (try dsimp only at hSw); go_simp⟩) hS ?_
            refine wpAnyH_take (i := 4) (oi := ({ dst := some 24, op := Op.move (Operand.tmp 6), type := 3, pos := "parse.go:322", after := #[{ on := 2, ground := Ground.guard }], guard := some (2, false) } : Oper)) (v := Value.int IntKind.i64 (f : Int)) rfl (by kernel_rfl) (by kernel_rfl) (by kernel_rfl) (fun _ _ _ h => h) (Or.inl ⟨by rfl, fun w hSw => by (try dsimp only at hSw); go_simp⟩) hS ?_
            refine wpAnyH_take (i := 5) (oi := ({ dst := some 25, op := Op.slice 53 (Operand.tmp 23) (some (Operand.tmp 24)) none none, type := 53, pos := "parse.go:322", after := #[{ on := 3, ground := Ground.data }, { on := 4, ground := Ground.data }, { on := 2, ground := Ground.guard }], guard := some (2, false) } : Oper)) (v := Value.slice (some ⟨g2, f, none⟩) c (fc - f)) rfl (by kernel_rfl) (by kernel_rfl) (by kernel_rfl) (fun _ _ _ h => h) (Or.inl ⟨by rfl, fun w hSw => by (try dsimp only at hSw); go_simp⟩) hS ?_
            refine wpAnyH_take (i := 6) (oi := ({ dst := some 26, op := Op.fieldAddr 55 (Operand.tmp 5) 4, type := 0, pos := "parse.go:322", after := #[{ on := 2, ground := Ground.guard }], guard := some (2, false) } : Oper)) (v := Value.pointer (some ⟨N1, 18, none⟩)) rfl (by kernel_rfl) (by kernel_rfl) (by kernel_rfl) (fun _ _ _ h => h) (Or.inl ⟨by rfl, fun w hSw => by (try dsimp only at hSw); go_simp⟩) hS ?_
            refine wpAnyH_take (i := 7) (oi := ({ dst := some 27, op := Op.load 53 (Operand.tmp 26), type := 53, pos := "parse.go:322", after := #[{ on := 6, ground := Ground.data }, { on := 2, ground := Ground.guard }], guard := some (2, false) } : Oper)) (v := Value.slice ka c kcap) rfl (by kernel_rfl) (by kernel_rfl) (by kernel_rfl) (fun _ _ _ h => h) (Or.inl ⟨by rfl, fun w hSw => by (try dsimp only at hSw); go_simp⟩) hS ?_
            refine wpAnyH_ready (rs := [8]) (by kernel_rfl) (by simp) ?_
            refine AllReadyH.cons (o := ({ dst := some 28, op := Op.call { callee := Callee.value (Operand.func 121), args := #[Operand.tmp 25, Operand.tmp 27], argTypes := #[53, 53] }, type := 4, pos := "parse.go:322", after := #[{ on := 5, ground := Ground.data }, { on := 7, ground := Ground.data }, { on := 2, ground := Ground.chain }, { on := 2, ground := Ground.guard }], guard := some (2, false) } : Oper)) rfl (fun K hK => ?_) AllReadyH.nil
            go_simp
            refine (unhide HEQ _ (unhide HID) (unhide HKD)).mono ?_
            rintro e w2 ⟨rfl, b2⟩
            have HB2 := hide (below_nx ((unhide HBA).drew) b2)
            have HO2 := hide (owns_grown (unhide HOD) (fun k hk _ => b2.block k hk))
            have hS2 : w2.cell? ⟨N1, 18, none⟩ = some (.slice ka c kcap) := by rw [b2.cell (p := ⟨N1, 18, none⟩) hN1]; exact x18'
            clear b2
            go_wp2_with fail
            refine hK.out _ _ hS2 (fun _ => ?_)
            clear hK K hS
            have hS := hS2
            refine wpAnyH_take (i := 9) (oi := ({ dst := some 29, op := Op.unOp UnOp.not 4 (Operand.tmp 28), type := 4, pos := "parse.go:322", after := #[{ on := 8, ground := Ground.data }, { on := 2, ground := Ground.guard }], guard := some (2, false) } : Oper)) (v := Value.bool (!eq)) rfl (by kernel_rfl) (by kernel_rfl) (by kernel_rfl) (fun _ _ _ h => h) (Or.inl ⟨by rfl, fun w hSw => by (try dsimp only at hSw); go_simp⟩) hS ?_
            refine wpAnyH_take (i := 10) (oi := ({ dst := some 30, op := Op.pick (Operand.tmp 22) (Operand.const (Value.bool true)) (Operand.tmp 29), type := 4, pos := "parse.go:322", after := #[{ on := 2, ground := Ground.data }, { on := 9, ground := Ground.data }], guard := none } : Oper)) (v := Value.bool (!eq)) rfl (by kernel_rfl) (by kernel_rfl) (by kernel_rfl) (fun _ _ _ h => h) (Or.inl ⟨by rfl, fun w hSw => by (try dsimp only at hSw); go_simp⟩) hS ?_
            refine wpAnyH_done (by kernel_rfl) ?_ _
            cases eq with
            | false =>
              have HF : Hid (sb = false) := hide (by
                rw [← unhide HSB]
                unfold standsB
                rw [← unhide HS, unhide HSK, if_neg (of_decide_eq_false (unhide HE))])
              go_wp2
              go_ret
              exact ⟨by rw [unhide HF]; rfl, unhide HB2⟩
            | true =>
              have HS2 : Hid (stkF (t.drop (k + 1)) (k + 1) (fl.take f ++ [(k : Int)]) = stkF t 0 []) := hide (by
                rw [← unhide HS, unhide HSK, if_pos (of_decide_eq_true (unhide HE))])
              obtain ⟨ta, tcap, hte, _, _, hto⟩ := owns_take (unhide HO2) (show f ≤ m by omega)
              have hte2 : ta = some ⟨g2, 0, none⟩ ∧ fc = tcap := by cases hte; exact ⟨rfl, rfl⟩
              obtain ⟨rfl, rfl⟩ := hte2
              have HTO := hide hto
              have hsz := (unhide HB2).size
              have HMW := unhide HM
              clear hte hto
              go_wp2_with (at_builtin; refine wpList_append_own _ rfl _ _ 53 rfl w.heap.size 3 i0 (.int .i64 0) 1 8 Tryz.underlying53 hi hz0 hz1 hz2 rfl (by decide) _ _ _ rfl ((unhide HTO).alloc _) ⟨w2.heap.size, 0, none⟩ 1 1 [.int .i64 (k : Int)] rfl rfl (World.news_of_block (heap_alloc_new _ _)) (by simp [Value.oneCell']) (by unfold maxLen; omega) (by omega) (by simp; omega) ?_)
              intro v' w3 hown' hgrow _
              obtain ⟨g', cap', rfl⟩ := owns_some hown' (by omega)
              have hlen' : (fl.take f ++ [(k : Int)]).length = f + 1 := by rw [List.length_append, List.length_take, List.length_singleton]; omega
              have HO3 : Hid (w3.ownsRow w.heap.size 3 1 (.slice (some ⟨g', 0, none⟩) (f + 1) cap') (fl.take f ++ [(k : Int)]).length ((fl.take f ++ [(k : Int)]).map fun k => Value.int .i64 k)) := hide (by
                rw [hlen', List.map_append, List.map_take]
                exact hown')
              have HB3 : Hid (Below w.heap.size w w3) := hide ((below_nx (unhide HB2) (below_al w2 (.cells #[.int .i64 (k : Int)] 3))).grown hgrow (by simp; omega) (fun j hj => by
                have := ((unhide HTO).lt j hj).1
                exact this))
              have HLN := hide hlen'
              clear hown' hgrow hlen' HMW
              go_wp2
              go_roundw
              case rel => exact ⟨k + 1, fl.take f ++ [(k : Int)], some ⟨g', 0, none⟩, cap', by go_num, by omega, by rw [unhide HLN], by rw [unhide HLN]; omega, HS2, HO3, HB3⟩
              case measure => simp [intOf]; omega
    · have hlti : ¬ (k : Int) < (n : Int) := by omega
      have hkn : k = n := by omega
      obtain ⟨m, hm⟩ : ∃ m, fl.length = m := ⟨_, rfl⟩
      have HM := hide hm
      have HF : Hid (sb = ((m : Int) == 1)) := hide (by
        have htl : t.length = n := by rw [← unhide HT, List.length_map, unhide HNL]
        rw [← unhide HSB]
        unfold standsB
        rw [← unhide HS, hkn, List.drop_of_length_le (by omega)]
        simp only [stkF]
        rw [hm, Bool.eq_iff_iff]
        simp only [beq_iff_eq]
        omega)
      rw [hm] at HO ⊢
      clear hm hkn
      go_wp2
      go_ret
      exact ⟨by rw [unhide HF]; rfl, unhide HB⟩
end Go.Proofs.YtloamahbghjjgaaGreatDoor
