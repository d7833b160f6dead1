/- The contract of the program's Put, of layer 3. -/
import Derived.Test.YteaodfeaidjcnaaGreatDoorVpG
import Derived.Test.YteaodfeaidjcnaaGreatDoorVpJ0
import Derived.Test.YteaodfeaidjcnaaGreatDoorVpL
import Derived.Test.YteaodfeaidjcnaaGreatDoorVrY
namespace Go.Proofs.YteaodfeaidjcnaaGreatDoor
open Go.RowKit

/-- The 64 bits of a number. -/
def u64N (n : Int) : Nat := (IntKind.u64.wrap n).toNat
theorem u64N_eq (n : Int) : IntKind.u64.wrap n = (u64N n : Int) ∧ u64N n < 18446744073709551616 := by
  have h0 : 0 ≤ IntKind.u64.wrap n ∧ IntKind.u64.wrap n < 18446744073709551616 := by
    rw [IntKind.wrap_u64]
    omega
  unfold u64N
  omega
def tailL (v : Vl) : List UInt8 :=
  if v.kind = 1 then be8 (u64N v.num) else if v.kind = 2 then UInt8.ofNat v.text.size :: v.text.data.toList else if v.kind = 3 then [if v.tr = true then 1 else 0] else if v.kind = 4 then [UInt8.ofNat v.fail.toNat] else []
def putL (v : Vl) : List UInt8 := UInt8.ofNat v.kind.toNat :: tailL v
def putV (v : Vl) : ByteArray × Int := if vGood v = true then (⟨(putL v).toArray⟩, 0) else (noText, 4)

set_option maxRecDepth 100000 in
set_option maxHeartbeats 2000000 in
theorem put_val (v : Vl) (w : World) (hs : v.text.size ≤ 1000000) :
    Calls Tryz.prog 15 #[.agg v.cells] w fun e w' => e = .returned (.tuple #[.string (putV v).1, .int .i64 (putV v).2]) ∧ Below w.heap.size w w' := by
  have HG := hide (fun w => good3_val v w hs)
  obtain ⟨R, hR⟩ : ∃ R, putV v = R := ⟨_, rfl⟩
  rw [hR]
  unfold putV at hR
  cases hg : vGood v
  · rw [hg, if_neg (by decide)] at hR
    rw [hg] at HG
    have E := hide hR.symm
    clear hR hg
    unfold Vl.cells at HG ⊢
    go_enter Tryz.func15, Tryz.ntmps15
    go_wp2_with fail
    refine (unhide HG _).mono ?_
    rintro e w1 ⟨rfl, b1⟩
    have HB := hide (below_nx (below_al w (.cells #[.int .i64 v.kind, .int .i64 v.num, .string v.text, .bool v.tr, .int .i64 v.fail] 28)) b1)
    clear b1
    go_wp2
    go_ret2
    exact ⟨pair_s (unhide E), unhide HB⟩
  · rw [hg, if_pos rfl] at hR
    rw [hg] at HG
    have GK := hide hg
    have HR := hide hR
    clear hR hg
    unfold Vl.cells at HG ⊢
    go_enter Tryz.func15, Tryz.ntmps15
    go_wp2_with fail
    refine (unhide HG _).mono ?_
    rintro e w1 ⟨rfl, b1⟩
    have HF := hide (five_below (five_new w 28 (.int .i64 v.kind) (.int .i64 v.num) (.string v.text) (.bool v.tr) (.int .i64 v.fail)) b1 (by simp))
    have HB := hide (below_nx (below_al w (.cells #[.int .i64 v.kind, .int .i64 v.num, .string v.text, .bool v.tr, .int .i64 v.fail] 28)) b1)
    clear b1
    obtain ⟨c0, c1, c2, c3, c4⟩ := five_cells (unhide HF)
    obtain ⟨k, n, s, b, f⟩ := v
    simp only [] at c0 c1 c2 c3 c4 HF HB GK HR hs ⊢
    have HS := hide hs
    clear hs HG
    have h5 := good_kind _ (unhide GK)
    simp only [] at h5
    rcases h5 with rfl | rfl | rfl | rfl | rfl
    · go_wp2_with fail
      refine (one_val 0 _).mono ?_
      rintro e w2 ⟨rfl, b2⟩
      have HF2 := hide (five_below (unhide HF) b2 (five_lt (unhide HF)))
      have HB2 := hide (below_nx (unhide HB) b2)
      clear c0 c1 c2 c3 c4 b2
      obtain ⟨c0, c1, c2, c3, c4⟩ := five_cells (unhide HF2)
      go_wp2
      go_ret2
      exact ⟨pair_s (unhide HR).symm, unhide HB2⟩
    · have HW := hide (fun w => word_val (u64N n) w (u64N_eq n).2)
      rw [← (u64N_eq n).1] at HW
      go_wp2_with fail
      refine (one_val 1 _).mono ?_
      rintro e w2 ⟨rfl, b2⟩
      have HF2 := hide (five_below (unhide HF) b2 (five_lt (unhide HF)))
      have HB2 := hide (below_nx (unhide HB) b2)
      clear c0 c1 c2 c3 c4 b2
      obtain ⟨c0, c1, c2, c3, c4⟩ := five_cells (unhide HF2)
      go_wp2_with fail
      refine (unhide HW _).mono ?_
      rintro e w3 ⟨rfl, b3⟩
      have HB3 := hide (below_nx (unhide HB2) b3)
      clear b3
      go_wp2
      go_ret2
      exact ⟨pair_s (unhide HR).symm, unhide HB3⟩
    · have hz : s.size ≤ 255 := by have h := unhide GK; rw [vGood2] at h; simp at h; exact h.1.1.2
      have HO : Hid (∀ w : World, Calls Tryz.prog 40 #[.int .u8 ((s.size : Int) % 256)] w fun e w' => e = .returned (.string ⟨#[UInt8.ofNat s.size]⟩) ∧ Below w.heap.size w w') := hide (fun w => by
        have h := one_val (UInt8.ofNat s.size) w
        rw [UInt8.toNat_ofNat', show ((s.size % 2 ^ 8 : Nat) : Int) = (s.size : Int) % 256 by omega] at h
        exact h)
      go_wp2_with fail
      refine (one_val 2 _).mono ?_
      rintro e w2 ⟨rfl, b2⟩
      have HF2 := hide (five_below (unhide HF) b2 (five_lt (unhide HF)))
      have HB2 := hide (below_nx (unhide HB) b2)
      clear c0 c1 c2 c3 c4 b2
      obtain ⟨c0, c1, c2, c3, c4⟩ := five_cells (unhide HF2)
      go_wp2_with fail
      go_region_with (first
        | (go_at_call 40; refine (unhide HO _).mono ?_; rintro e w3 ⟨rfl, b3⟩; have HF3 := hide (five_below (five_drew (unhide HF2)) b3 (five_lt (unhide HF2))); have HB3 := hide (below_nx (unhide HB2).drew b3); clear b3 c0 c1 c2 c3 c4; obtain ⟨c0, c1, c2, c3, c4⟩ := five_cells (unhide HF3)))
      all_goals (try go_wp2_with fail)
      all_goals go_ret2
      all_goals exact ⟨pair_s (unhide HR).symm, unhide HB3⟩
    · cases b
      · have HO : Hid (∀ w : World, Calls Tryz.prog 40 #[.int .u8 0] w fun e w' => e = .returned (.string ⟨#[0]⟩) ∧ Below w.heap.size w w') := hide (fun w => one_val 0 w)
        go_wp2_with fail
        refine (one_val 3 _).mono ?_
        rintro e w2 ⟨rfl, b2⟩
        have HF2 := hide (five_below (unhide HF) b2 (five_lt (unhide HF)))
        have HB2 := hide (below_nx (unhide HB) b2)
        clear c0 c1 c2 c3 c4 b2
        obtain ⟨c0, c1, c2, c3, c4⟩ := five_cells (unhide HF2)
        go_wp2_with fail
        refine (unhide HO _).mono ?_
        rintro e w3 ⟨rfl, b3⟩
        have HB3 := hide (below_nx (unhide HB2) b3)
        clear b3
        go_wp2
        go_ret2
        exact ⟨pair_s (unhide HR).symm, unhide HB3⟩
      · have HO : Hid (∀ w : World, Calls Tryz.prog 40 #[.int .u8 1] w fun e w' => e = .returned (.string ⟨#[1]⟩) ∧ Below w.heap.size w w') := hide (fun w => one_val 1 w)
        go_wp2_with fail
        refine (one_val 3 _).mono ?_
        rintro e w2 ⟨rfl, b2⟩
        have HF2 := hide (five_below (unhide HF) b2 (five_lt (unhide HF)))
        have HB2 := hide (below_nx (unhide HB) b2)
        clear c0 c1 c2 c3 c4 b2
        obtain ⟨c0, c1, c2, c3, c4⟩ := five_cells (unhide HF2)
        go_wp2_with fail
        refine (unhide HO _).mono ?_
        rintro e w3 ⟨rfl, b3⟩
        have HB3 := hide (below_nx (unhide HB2) b3)
        clear b3
        go_wp2
        go_ret2
        exact ⟨pair_s (unhide HR).symm, unhide HB3⟩
    · have hz : 1 ≤ f ∧ f ≤ 8 := by have h := unhide GK; rw [vGood4] at h; simp at h; omega
      have HO : Hid (∀ w : World, Calls Tryz.prog 40 #[.int .u8 (f % 256)] w fun e w' => e = .returned (.string ⟨#[UInt8.ofNat f.toNat]⟩) ∧ Below w.heap.size w w') := hide (fun w => by
        have h := one_val (UInt8.ofNat f.toNat) w
        rw [UInt8.toNat_ofNat', show ((f.toNat % 2 ^ 8 : Nat) : Int) = f % 256 by omega] at h
        exact h)
      clear hz
      go_wp2_with fail
      refine (one_val 4 _).mono ?_
      rintro e w2 ⟨rfl, b2⟩
      have HF2 := hide (five_below (unhide HF) b2 (five_lt (unhide HF)))
      have HB2 := hide (below_nx (unhide HB) b2)
      clear c0 c1 c2 c3 c4 b2
      obtain ⟨c0, c1, c2, c3, c4⟩ := five_cells (unhide HF2)
      go_wp2_with fail
      refine (unhide HO _).mono ?_
      rintro e w3 ⟨rfl, b3⟩
      have HB3 := hide (below_nx (unhide HB2) b3)
      clear b3
      go_wp2
      go_ret2
      exact ⟨pair_s (unhide HR).symm, unhide HB3⟩
end Go.Proofs.YteaodfeaidjcnaaGreatDoor
