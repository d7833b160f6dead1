/- FloatChain (P2.2, P2.4): for every three words of 64 bits the law answers true and leaves its argument as it was: the order of float64 is one, and the numbers nearest to them stand in it, too. No condition. -/
import Derived.Test.YtnlhgehibbgmoaaLfN
import Derived.ProofKit
import Derived.OpenShut
import Derived.WideKeyArr
namespace Go.Proofs.Ytnlhgehibbgmoaa.FloatChain
open Go.ChangeShapes Go.WideShapes Go.ChangeAt Go.RowKit

theorem own : ownKnob Try.prog.godebug = none := by kernel_rfl
theorem cells47 : Try.prog.cellsOf 47 = 3 := by kernel_rfl
theorem cells22 : Try.prog.cellsOf 22 = 1 := by kernel_rfl

section
variable {H : Type} {enc : TypeId × Value → H} {W : World} {base : Nat} {sp : Nat → Bool} {held : Bool}
/-- An argument of three numbers, opened. -/
theorem open_three {r : Reach} {b0 : Nat} {v : Value} {d : DataW H} {ps : List MemPlace} (hval : Value.okWide Try.prog W r b0 47 v) (hd : DataW.Trod enc Try.prog W base sp held 47 v d ps) :
    ∃ a b c : Int, v = .agg #[.int .u64 a, .int .u64 b, .int .u64 c] ∧ d = .agg [.lit (.int .u64 a), .lit (.int .u64 b), .lit (.int .u64 c)] ∧ ps = [] ∧ (Lit.int .u64 a).wf = true ∧ (Lit.int .u64 b).wf = true ∧ (Lit.int .u64 c).wf = true := by
  simp only [Value.okWide, Try.underlying47] at hval
  obtain ⟨⟨cs⟩, rfl, hn, _⟩ := hval
  rw [cells47] at hn
  obtain ⟨c0, c1, c2, rfl⟩ : ∃ c0 c1 c2, cs = [c0, c1, c2] := by
    match cs, hn with
    | [x, y, z], _ => exact ⟨x, y, z, rfl⟩
  obtain ⟨fuel, hf⟩ := hd
  obtain ⟨xs, m, _, hx, _, hl, hi⟩ := DataW.trod_array Try.underlying47 hf
  obtain ⟨x0, x1, x2, rfl⟩ : ∃ x0 x1 x2, xs = [x0, x1, x2] := by
    match xs, hl with
    | [x, y, z], _ => exact ⟨x, y, z, rfl⟩
  have h0 := hi 0 (by decide)
  have h1 := hi 1 (by decide)
  have h2 := hi 2 (by decide)
  rw [cells22] at h0 h1 h2
  obtain ⟨a, ea, da, wa⟩ := DataW.trod_int Try.underlying22 h0
  obtain ⟨b, eb, db, wb⟩ := DataW.trod_int Try.underlying22 h1
  obtain ⟨c, ec, dc, wc⟩ := DataW.trod_int Try.underlying22 h2
  simp [Value.cells] at ea eb ec
  subst ea eb ec da db dc
  simp only [Prod.mk.injEq] at hx
  exact ⟨a, b, c, rfl, hx.1, hx.2, wa, wb, wc⟩
/-- The same, shut. -/
theorem shut_three {a b c : Int} (wa : (Lit.int .u64 a).wf = true) (wb : (Lit.int .u64 b).wf = true) (wc : (Lit.int .u64 c).wf = true) :
    DataW.Trod enc Try.prog W base sp held 47 (.agg #[.int .u64 a, .int .u64 b, .int .u64 c]) (.agg [.lit (.int .u64 a), .lit (.int .u64 b), .lit (.int .u64 c)]) [] := by
  refine ⟨2, ?_⟩
  show DataW.trod enc Try.prog W base sp held (1 + 1) 47 [.int .u64 a, .int .u64 b, .int .u64 c] = _
  rw [DataW.trod_step]
  unfold DataW.trodStep
  simp only [Try.underlying47]
  rw [if_pos (by rw [cells47]; rfl), show List.range 3 = [0, 1, 2] from rfl, List.mapM_cons, List.mapM_cons, List.mapM_cons, List.mapM_nil]
  simp [cells22, DataW.trod, Try.underlying22, wa, wb, wc]
end

set_option maxRecDepth 100000 in
theorem lifted (os : Os) (started : os.Started) (H : Type) (enc : TypeId × Value → H) :
    ReturnsInHanded {} Try.checked os 8 .any (Rows.floatChainSpec.pre6 enc Try.prog Try.f8 Rows.floatChainRow.domain false) (Rows.floatChainSpec.post enc Try.prog Try.f8 false true false false) := by
  refine returnsInHanded_of_change (C := Try.checked) own started (by kernel_rfl) Try.func8
    (ChangeSpec.witness6 (enc := enc) (C := Try.checked) false ⟨#[], #[.agg #[.int .u64 0, .int .u64 0, .int .u64 0]], []⟩ 8 (by kernel_rfl) (by kernel_rfl) (by kernel_rfl) (by kernel_rfl)) ?_
  intro W base args ds gs before hval0 hW _ _
  have hval : ∀ (j : Nat) t v, Try.f8.params[j]? = some t → args[j]? = some v → Value.okWide Try.prog W .any base t v := hval0
  have hW2 := hW
  obtain ⟨p, q, hA0, hV, rfl, hfz, hnd⟩ := hW
  have hA : DataW.TrodAll enc Try.prog W 0 (fun _ => true) true Try.f8.params.toList args.toList ds p := hA0
  rw [Try.params8] at hA hval
  obtain ⟨v0, vs0, d0, ds0, p0, q0, hargs, rfl, rfl, h0, r0⟩ := trodAll_cons hA
  obtain ⟨rfl, rfl, rfl⟩ := trodAll_nil r0
  obtain rfl : args = #[v0] := by cases args; simp_all
  obtain ⟨rfl, rfl⟩ := trodVars_none hV
  obtain ⟨a, b, c, rfl, rfl, rfl, wa, wb, wc⟩ := open_three (hval 0 47 v0 rfl rfl) h0
  clear hA0 hval0
  simp only [List.append_nil] at hW2
  have xa := bounds_u64 wa
  have xb := bounds_u64 wb
  have xc := bounds_u64 wc
  obtain ⟨na, rfl⟩ := Int.eq_ofNat_of_zero_le xa.1
  obtain ⟨nb, rfl⟩ := Int.eq_ofNat_of_zero_le xb.1
  obtain ⟨nc, rfl⟩ := Int.eq_ofNat_of_zero_le xc.1
  refine (law_chain na nb nc W (by omega) (by omega) (by omega)).mono fun e W2 ⟨he, hb⟩ => ?_
  subst he
  exact ⟨_, rfl, _, _, _, [], [], [], hW2, trodAll_cons_mk (shut_bool Try.underlying4 _) trodAll_mk0, trodAll_cons_mk (shut_three wa wb wc) trodAll_mk0, rfl, hb.frame _, fun h => by cases h⟩

theorem over : Rows.floatChainRow.holds Try.pinned (OpenSpec.ofChange Rows.floatChainSpec) :=
  OpenClaim.holds_of_wide 8 Try.f8 rfl rfl rfl rfl rfl rfl rfl ⟨rfl, rfl, rfl, rfl, rfl⟩ rfl rfl rfl rfl rfl (by kernel_rfl) Try.func8 (by kernel_rfl)
    (of_decide_eq_true (by kernel_rfl)) (by unfold Func.isWrapper; first | (rw [if_pos (by decide +kernel)]; kernel_rfl) | (rw [if_neg (by decide +kernel)]; exact ⟨rfl, rfl⟩))
    (fun os started H enc _ => lifted os started H enc)
end Go.Proofs.Ytnlhgehibbgmoaa.FloatChain
namespace Go.Proofs.Ytnlhgehibbgmoaa
theorem floatChain_holds : Rows.FloatChainSaid := FloatChain.over
end Go.Proofs.Ytnlhgehibbgmoaa
