/- Plain arithmetic beneath math/bits.Div64: two digits by one, after Knuth. -/
import Derived.BigQuiet
import Derived.Deep.CutBlock
import Derived.Deep.CutRange
import Derived.Deep.QuietTactic
import Derived.Laws.Bits64b
import Derived.Lib.BitFns
import Derived.Lib.ItoaNum
import Derived.Shelf.Bits.Mul64
import Derived.Shelf.LaysM
import Derived.Shelf.Small.Bits
import Derived.Shelf.Small.Strs
import Derived.Shelf.Small.Wraps
import Derived.Shelf.Strconv.Itoa0
import Derived.Shelf.Strconv.Itoa1
import Derived.Shelf.Strconv.Itoa2
import Derived.Shelf.Strings.AsciiSet
import Derived.Shelf.Strings.Cut
import Derived.Shelf.Strings.Prefix
import Derived.Shelf.Strings.Search1
import Derived.Shelf.Strings.Search2
import Derived.Shelf.Strings.Shaped
import Derived.Shelf.Strings.Trim
import Derived.Test.YtbeijnflfmjgfaaGreatDoorProg
import Derived.Test.YtbeijnflfmjgfaaGreatDoorRows
import Derived.WalkKit
import Derived.WalkLawsBesides
import Derived.WalkSmall
import Derived.WalkSpells
import Derived.Test.YtbeijnflfmjgfaaGreatDoorZnAA
import Derived.Test.YtbeijnflfmjgfaaGreatDoorZnAB
namespace Go.Proofs.YtbeijnflfmjgfaaGreatDoor.Dv

theorem norm (hi lo y : Nat) (hhy : hi < y) (h1 : lo < 18446744073709551616) (hy : y < 18446744073709551616) :
    ∃ s Y H L u v : Nat, Lib.bitLen y + s = 64 ∧ s ≤ 63 ∧ y * 2 ^ s = Y ∧ 9223372036854775808 ≤ Y ∧ Y < 18446744073709551616 ∧
      hi * 2 ^ s = H ∧ H < 18446744073709551616 ∧ lo / 2 ^ (64 - s) = L ∧ L < 18446744073709551616 ∧ (H ||| L) = u ∧ u < Y ∧
      (lo * 2 ^ s) % 18446744073709551616 = v ∧ v < 18446744073709551616 ∧ (hi * 18446744073709551616 + lo) * 2 ^ s = u * 18446744073709551616 + v := by
  obtain ⟨b1, b2, b3⟩ := Lib.bitLenAux_bounds 64 y (by omega) (by omega)
  have bl : Lib.bitLen y ≤ 64 := Lib.bitLen_le y 64 (by omega) (by omega)
  have be : Lib.bitLenAux 64 y = Lib.bitLen y := rfl
  rw [be] at b1 b2 b3
  generalize Lib.bitLen y = n at *
  have e64 : (18446744073709551616 : Nat) = 2 ^ 64 := by decide
  have e63 : (9223372036854775808 : Nat) = 2 ^ 63 := by decide
  have pw : 2 ^ n * 2 ^ (64 - n) = 2 ^ 64 := by rw [← Nat.pow_add]; congr 1; omega
  have pw1 : 2 ^ (n - 1) * 2 ^ (64 - n) = 2 ^ 63 := by rw [← Nat.pow_add]; congr 1; omega
  have pp : 0 < 2 ^ (64 - n) := Nat.two_pow_pos _
  have hYl : 2 ^ 63 ≤ y * 2 ^ (64 - n) := by rw [← pw1]; exact Nat.mul_le_mul_right _ b2
  have hYu : y * 2 ^ (64 - n) < 2 ^ 64 := by rw [← pw]; exact (Nat.mul_lt_mul_right pp).2 b3
  have hH : hi * 2 ^ (64 - n) < 2 ^ 64 := Nat.lt_of_le_of_lt (Nat.mul_le_mul_right _ (Nat.le_of_lt hhy)) hYu
  have e6 : 64 - (64 - n) = n := by omega
  have hL : lo / 2 ^ n < 2 ^ (64 - n) := by
    rw [Nat.div_lt_iff_lt_mul (Nat.two_pow_pos _), Nat.mul_comm, pw, ← e64]; exact h1
  have hor : hi * 2 ^ (64 - n) ||| lo / 2 ^ n = hi * 2 ^ (64 - n) + lo / 2 ^ n := by
    have := Nat.two_pow_add_eq_or_of_lt hL hi
    rw [Nat.mul_comm hi]; exact this.symm
  have hdm : lo * 2 ^ (64 - n) = lo / 2 ^ n * 2 ^ 64 + (lo * 2 ^ (64 - n)) % 2 ^ 64 := by
    have h := Nat.div_add_mod (lo * 2 ^ (64 - n)) (2 ^ 64)
    have h2 : lo * 2 ^ (64 - n) / 2 ^ 64 = lo / 2 ^ n := by
      rw [← pw]; exact Nat.mul_div_mul_right _ _ pp
    rw [h2] at h
    omega
  have heq : (hi * 2 ^ 64 + lo) * 2 ^ (64 - n) = (hi * 2 ^ (64 - n) + lo / 2 ^ n) * 2 ^ 64 + (lo * 2 ^ (64 - n)) % 2 ^ 64 := by
    rw [Nat.add_mul, Nat.add_mul, Nat.mul_right_comm]
    omega
  have hlt : (hi * 2 ^ 64 + lo) * 2 ^ (64 - n) < y * 2 ^ (64 - n) * 2 ^ 64 := by
    have a : hi * 2 ^ 64 + lo < y * 2 ^ 64 := by omega
    rw [Nat.mul_right_comm]
    exact (Nat.mul_lt_mul_right pp).2 a
  have hu : hi * 2 ^ (64 - n) + lo / 2 ^ n < y * 2 ^ (64 - n) := by
    rw [heq] at hlt
    omega
  refine ⟨64 - n, _, _, _, _, _, by omega, by omega, rfl, by omega, by omega, rfl, by omega, rfl, ?_, rfl, ?_, rfl, Nat.mod_lt _ (by omega), ?_⟩
  · rw [e6]; exact Nat.lt_of_le_of_lt (Nat.div_le_self _ _) h1
  · rw [e6, hor]; exact hu
  · rw [e6, hor, e64]; exact heq

def dig (Y u n : Nat) : Nat := (u * 4294967296 + n) / Y

theorem dig_lt (Y u n : Nat) (hu : u < Y) (hn : n < 4294967296) : dig Y u n < 4294967296 := by
  unfold dig
  rw [Nat.div_lt_iff_lt_mul (by omega)]
  have : u * 4294967296 + 4294967296 ≤ Y * 4294967296 := by omega
  omega

theorem mulY (q y1 y0 : Nat) : q * (y1 * 4294967296 + y0) = q * y1 * 4294967296 + q * y0 := by
  rw [Nat.mul_add, Nat.mul_assoc]

theorem too_big (y1 y0 u n q r : Nat) (hu : u < y1 * 4294967296 + y0) (hn : n < 4294967296) (h : q * y1 + r = u) (hc : 4294967296 ≤ q ∨ 4294967296 * r + n < q * y0) :
    dig (y1 * 4294967296 + y0) u n + 1 ≤ q := by
  rcases hc with hc | hc
  · have := dig_lt _ u n hu hn; omega
  · have : dig (y1 * 4294967296 + y0) u n < q := by
      unfold dig
      rw [Nat.div_lt_iff_lt_mul (by omega), mulY]
      omega
    omega

theorem small (y1 y0 u n q r : Nat) (hu : u < y1 * 4294967296 + y0) (h : q * y1 + r = u) (hq : dig (y1 * 4294967296 + y0) u n ≤ q) (hc : q * y0 ≤ 4294967296 * r + n) :
    q = dig (y1 * 4294967296 + y0) u n := by
  refine Nat.le_antisymm ?_ hq
  unfold dig
  rw [Nat.le_div_iff_mul_le (by omega), mulY]
  omega

theorem brk (y1 y0 u n q r : Nat) (hu : u < y1 * 4294967296 + y0) (hy0 : y0 < 4294967296) (h : q * y1 + r = u) (hq : dig (y1 * 4294967296 + y0) u n ≤ q) (hr : 4294967296 ≤ r) (hb : q ≤ 4294967296) :
    q = dig (y1 * 4294967296 + y0) u n := by
  refine small y1 y0 u n q r hu h hq ?_
  have : q * y0 ≤ 4294967296 * y0 := Nat.mul_le_mul_right _ hb
  omega

theorem first (y1 y0 u n : Nat) (hu : u < y1 * 4294967296 + y0) (hn : n < 4294967296) (hy0 : y0 < 4294967296) (hy1 : 2147483648 ≤ y1) :
    dig (y1 * 4294967296 + y0) u n ≤ u / y1 ∧ u / y1 ≤ 4294967297 ∧ u / y1 * y1 + u % y1 = u ∧ u % y1 < y1 := by
  have hp : 0 < y1 := by omega
  refine ⟨?_, ?_, ?_, Nat.mod_lt _ hp⟩
  · rw [Nat.le_div_iff_mul_le hp]
    have h := Nat.div_mul_le_self (u * 4294967296 + n) (y1 * 4294967296 + y0)
    have h' : dig (y1 * 4294967296 + y0) u n * (y1 * 4294967296 + y0) ≤ u * 4294967296 + n := h
    rw [mulY] at h'
    omega
  · have h := Nat.div_mul_le_self u y1
    generalize u / y1 = q at *
    by_cases hc : q ≤ 4294967297
    · exact hc
    · have : 4294967298 * y1 ≤ q * y1 := Nat.mul_le_mul_right _ (by omega)
      omega
  · have := Nat.div_add_mod u y1
    rw [Nat.mul_comm] at this
    exact this

theorem next {q y1 r u : Nat} (h : q * y1 + r = u) (hq : 1 ≤ q) : (q - 1) * y1 + (r + y1) = u := by
  obtain ⟨p, rfl⟩ : ∃ p, q = p + 1 := ⟨q - 1, by omega⟩
  rw [Nat.add_sub_cancel, ← h, Nat.add_mul]; omega

theorem left (Y u n : Nat) (hY : 0 < Y) : dig Y u n * Y ≤ u * 4294967296 + n ∧ u * 4294967296 + n - dig Y u n * Y = (u * 4294967296 + n) % Y ∧ u * 4294967296 + n - dig Y u n * Y < Y := by
  unfold dig
  have h := Nat.div_add_mod (u * 4294967296 + n) Y
  have h2 := Nat.mod_lt (u * 4294967296 + n) hY
  rw [Nat.mul_comm] at h
  omega

theorem two_gen (Y A B v0 : Nat) (hY : 0 < Y) : (A * B + v0) / Y = A / Y * B + (A % Y * B + v0) / Y ∧ (A * B + v0) % Y = (A % Y * B + v0) % Y := by
  have h := Nat.div_add_mod A Y
  generalize A / Y = a at *
  generalize A % Y = b at *
  have e2 : A * B + v0 = (b * B + v0) + Y * (a * B) := by
    rw [← h, Nat.add_mul, Nat.mul_assoc]; omega
  rw [e2]
  refine ⟨?_, ?_⟩
  · rw [Nat.add_mul_div_left _ _ hY, Nat.add_comm]
  · rw [Nat.add_mul_mod_self_left]

theorem two (Y u v1 v0 : Nat) (hY : 0 < Y) :
    (u * 18446744073709551616 + (v1 * 4294967296 + v0)) / Y = dig Y u v1 * 4294967296 + dig Y ((u * 4294967296 + v1) % Y) v0 ∧
    (u * 18446744073709551616 + (v1 * 4294967296 + v0)) % Y = (((u * 4294967296 + v1) % Y) * 4294967296 + v0) % Y := by
  have e : u * 18446744073709551616 + (v1 * 4294967296 + v0) = (u * 4294967296 + v1) * 4294967296 + v0 := by omega
  rw [e]
  unfold dig
  exact two_gen Y (u * 4294967296 + v1) 4294967296 v0 hY

theorem back (hi lo y s Y u v : Nat) (hY : y * 2 ^ s = Y) (h : (hi * 18446744073709551616 + lo) * 2 ^ s = u * 18446744073709551616 + v) :
    (u * 18446744073709551616 + v) / Y = (hi * 18446744073709551616 + lo) / y ∧ (u * 18446744073709551616 + v) % Y / 2 ^ s = (hi * 18446744073709551616 + lo) % y := by
  rw [← h, ← hY]
  refine ⟨Nat.mul_div_mul_right _ _ (Nat.two_pow_pos _), ?_⟩
  rw [Nat.mul_mod_mul_right, Nat.mul_div_cancel _ (Nat.two_pow_pos _)]

end Go.Proofs.YtbeijnflfmjgfaaGreatDoor.Dv

namespace Go.Proofs
open Go.Shelf
def Tryz.lays162_ren : Go.Shelf.Ren := ⟨fun | 162 => 184 | 232 => 158 | 227 => 159 | 234 => 161 | 236 => 163 | 228 => 178 | 271 => 181 | 151 => 180 | 120 => 194 | 197 => 179 | 152 => 193 | 260 => 192 | 137 => 202 | 119 => 203 | 224 => 200 | 225 => 199 | 217 => 198 | 266 => 208 | n => n, fun | 9 => 9 | 4 => 4 | 3 => 3 | 5 => 5 | 117 => 167 | 116 => 166 | 0 => 0 | 124 => 170 | 21 => 21 | 105 => 180 | 46 => 185 | 119 => 195 | 139 => 198 | 138 => 197 | n => n, fun | 3 => 5 | 4 => 6 | n => n⟩
theorem Tryz.lays162 : Go.Proofs.Lays.n162 Tryz.prog Tryz.lays162_ren := {
  mixed := by kernel_rfl
  f119 := Tryz.func203.trans (congrArg some (by kernel_rfl))
  f120 := Tryz.func194.trans (congrArg some (by kernel_rfl))
  f137 := Tryz.func202.trans (congrArg some (by kernel_rfl))
  f151 := Tryz.func180.trans (congrArg some (by kernel_rfl))
  f152 := Tryz.func193.trans (congrArg some (by kernel_rfl))
  f162 := Tryz.func184.trans (congrArg some (by kernel_rfl))
  f197 := Tryz.func179.trans (congrArg some (by kernel_rfl))
  f217 := Tryz.func198.trans (congrArg some (by kernel_rfl))
  f224 := Tryz.func200.trans (congrArg some (by kernel_rfl))
  f225 := Tryz.func199.trans (congrArg some (by kernel_rfl))
  f227 := Tryz.func159.trans (congrArg some (by kernel_rfl))
  f228 := Tryz.func178.trans (congrArg some (by kernel_rfl))
  f232 := Tryz.func158.trans (congrArg some (by kernel_rfl))
  f234 := Tryz.func161.trans (congrArg some (by kernel_rfl))
  f236 := Tryz.func163.trans (congrArg some (by kernel_rfl))
  f260 := Tryz.func192.trans (congrArg some (by kernel_rfl))
  f266 := Tryz.func208.trans (congrArg some (by kernel_rfl))
  f271 := Tryz.func181.trans (congrArg some (by kernel_rfl))
  t0 := Tryz.underlying0
  a0 := Tryz.isAgg0
  z0 := Tryz.sizeOf0
  v0 := Tryz.zeroValue0
  t3 := Tryz.underlying3
  a3 := Tryz.isAgg3
  z3 := Tryz.sizeOf3
  v3 := Tryz.zeroValue3
  t4 := Tryz.underlying4
  a4 := Tryz.isAgg4
  z4 := Tryz.sizeOf4
  v4 := Tryz.zeroValue4
  t5 := Tryz.underlying5
  a5 := Tryz.isAgg5
  z5 := Tryz.sizeOf5
  v5 := Tryz.zeroValue5
  t9 := Tryz.underlying9
  a9 := Tryz.isAgg9
  z9 := Tryz.sizeOf9
  v9 := Tryz.zeroValue9
  t21 := Tryz.underlying21
  a21 := Tryz.isAgg21
  z21 := Tryz.sizeOf21
  v21 := Tryz.zeroValue21
  t46 := Tryz.underlying185
  a46 := Tryz.isAgg185
  z46 := Tryz.sizeOf185
  v46 := Tryz.zeroValue185
  t105 := Tryz.underlying180
  a105 := Tryz.isAgg180
  z105 := Tryz.sizeOf180
  v105 := Tryz.zeroValue180
  t116 := Tryz.underlying166
  a116 := Tryz.isAgg166
  z116 := Tryz.sizeOf166
  t117 := Tryz.underlying167
  a117 := Tryz.isAgg167
  z117 := Tryz.sizeOf167
  v117 := Tryz.zeroValue167
  t119 := Tryz.underlying195
  a119 := Tryz.isAgg195
  z119 := Tryz.sizeOf195
  t124 := Tryz.underlying170
  a124 := Tryz.isAgg170
  z124 := Tryz.sizeOf170
  v124 := Tryz.zeroValue170
  t138 := Tryz.underlying197
  a138 := Tryz.isAgg197
  z138 := Tryz.sizeOf197
  v138 := Tryz.zeroValue197
  t139 := Tryz.underlying198
  a139 := Tryz.isAgg198
  z139 := Tryz.sizeOf198
  v139 := Tryz.zeroValue198
  g3 := by kernel_rfl
  g4 := by kernel_rfl }
open Go.RowKit in
theorem Tryz.strings_TrimRight_one (s : ByteArray) (c : UInt8) (hc : c.toNat < 128) (w : World) (hs : s.size ≤ 9223372036854775807) :
    Calls Tryz.prog 184 #[.string s, .string ⟨#[c]⟩] w fun e w' => e = .returned (.string ⟨(Lib.trimRightB s.data.toList c).toArray⟩) ∧ w' = w := Any.strings_TrimRight_one Tryz.lays162 s c hc w hs
def Tryz.lays160_ren : Go.Shelf.Ren := ⟨fun | 160 => 118 | 232 => 158 | 231 => 157 | 227 => 159 | 234 => 161 | 233 => 160 | 236 => 163 | 235 => 162 | 228 => 178 | 271 => 181 | 151 => 180 | 197 => 179 | 120 => 194 | 152 => 193 | 260 => 192 | 137 => 202 | 119 => 203 | 224 => 200 | 225 => 199 | 217 => 198 | 266 => 208 | n => n, fun | 9 => 9 | 4 => 4 | 3 => 3 | 5 => 5 | 117 => 167 | 116 => 166 | 0 => 0 | 124 => 170 | 21 => 21 | 105 => 180 | 46 => 185 | 119 => 195 | 139 => 198 | 138 => 197 | n => n, fun | 3 => 5 | 4 => 6 | n => n⟩
theorem Tryz.lays160 : Go.Proofs.Lays.n160 Tryz.prog Tryz.lays160_ren := {
  mixed := by kernel_rfl
  f119 := Tryz.func203.trans (congrArg some (by kernel_rfl))
  f120 := Tryz.func194.trans (congrArg some (by kernel_rfl))
  f137 := Tryz.func202.trans (congrArg some (by kernel_rfl))
  f151 := Tryz.func180.trans (congrArg some (by kernel_rfl))
  f152 := Tryz.func193.trans (congrArg some (by kernel_rfl))
  f160 := Tryz.func118.trans (congrArg some (by kernel_rfl))
  f197 := Tryz.func179.trans (congrArg some (by kernel_rfl))
  f217 := Tryz.func198.trans (congrArg some (by kernel_rfl))
  f224 := Tryz.func200.trans (congrArg some (by kernel_rfl))
  f225 := Tryz.func199.trans (congrArg some (by kernel_rfl))
  f227 := Tryz.func159.trans (congrArg some (by kernel_rfl))
  f228 := Tryz.func178.trans (congrArg some (by kernel_rfl))
  f231 := Tryz.func157.trans (congrArg some (by kernel_rfl))
  f232 := Tryz.func158.trans (congrArg some (by kernel_rfl))
  f233 := Tryz.func160.trans (congrArg some (by kernel_rfl))
  f234 := Tryz.func161.trans (congrArg some (by kernel_rfl))
  f235 := Tryz.func162.trans (congrArg some (by kernel_rfl))
  f236 := Tryz.func163.trans (congrArg some (by kernel_rfl))
  f260 := Tryz.func192.trans (congrArg some (by kernel_rfl))
  f266 := Tryz.func208.trans (congrArg some (by kernel_rfl))
  f271 := Tryz.func181.trans (congrArg some (by kernel_rfl))
  t0 := Tryz.underlying0
  a0 := Tryz.isAgg0
  z0 := Tryz.sizeOf0
  v0 := Tryz.zeroValue0
  t3 := Tryz.underlying3
  a3 := Tryz.isAgg3
  z3 := Tryz.sizeOf3
  v3 := Tryz.zeroValue3
  t4 := Tryz.underlying4
  a4 := Tryz.isAgg4
  z4 := Tryz.sizeOf4
  v4 := Tryz.zeroValue4
  t5 := Tryz.underlying5
  a5 := Tryz.isAgg5
  z5 := Tryz.sizeOf5
  v5 := Tryz.zeroValue5
  t9 := Tryz.underlying9
  a9 := Tryz.isAgg9
  z9 := Tryz.sizeOf9
  v9 := Tryz.zeroValue9
  t21 := Tryz.underlying21
  a21 := Tryz.isAgg21
  z21 := Tryz.sizeOf21
  v21 := Tryz.zeroValue21
  t46 := Tryz.underlying185
  a46 := Tryz.isAgg185
  z46 := Tryz.sizeOf185
  v46 := Tryz.zeroValue185
  t105 := Tryz.underlying180
  a105 := Tryz.isAgg180
  z105 := Tryz.sizeOf180
  v105 := Tryz.zeroValue180
  t116 := Tryz.underlying166
  a116 := Tryz.isAgg166
  z116 := Tryz.sizeOf166
  t117 := Tryz.underlying167
  a117 := Tryz.isAgg167
  z117 := Tryz.sizeOf167
  v117 := Tryz.zeroValue167
  t119 := Tryz.underlying195
  a119 := Tryz.isAgg195
  z119 := Tryz.sizeOf195
  t124 := Tryz.underlying170
  a124 := Tryz.isAgg170
  z124 := Tryz.sizeOf170
  v124 := Tryz.zeroValue170
  t138 := Tryz.underlying197
  a138 := Tryz.isAgg197
  z138 := Tryz.sizeOf197
  v138 := Tryz.zeroValue197
  t139 := Tryz.underlying198
  a139 := Tryz.isAgg198
  z139 := Tryz.sizeOf198
  v139 := Tryz.zeroValue198
  g3 := by kernel_rfl
  g4 := by kernel_rfl }
open Go.RowKit in
theorem Tryz.strings_Trim_one (s : ByteArray) (c : UInt8) (hc : c.toNat < 128) (w : World) (hs : s.size ≤ 9223372036854775807) :
    Calls Tryz.prog 118 #[.string s, .string ⟨#[c]⟩] w fun e w' => e = .returned (.string ⟨(Lib.trimB s.data.toList c).toArray⟩) ∧ (w' = w ∨ w' = w.drew) := Any.strings_Trim_one Tryz.lays160 s c hc w hs
def Tryz.lays134_ren : Go.Shelf.Ren := ⟨fun | 134 => 185 | 129 => 196 | n => n, fun | 53 => 112 | 3 => 3 | 4 => 4 | 46 => 185 | 5 => 5 | 9 => 9 | n => n, fun | n => n⟩
theorem Tryz.lays134 : Go.Proofs.Lays.n134 Tryz.prog Tryz.lays134_ren := {
  mixed := by kernel_rfl
  f129 := Tryz.func196.trans (congrArg some (by kernel_rfl))
  f134 := Tryz.func185.trans (congrArg some (by kernel_rfl))
  t3 := Tryz.underlying3
  a3 := Tryz.isAgg3
  z3 := Tryz.sizeOf3
  v3 := Tryz.zeroValue3
  t4 := Tryz.underlying4
  a4 := Tryz.isAgg4
  z4 := Tryz.sizeOf4
  v4 := Tryz.zeroValue4
  t5 := Tryz.underlying5
  a5 := Tryz.isAgg5
  z5 := Tryz.sizeOf5
  v5 := Tryz.zeroValue5
  t9 := Tryz.underlying9
  a9 := Tryz.isAgg9
  z9 := Tryz.sizeOf9
  v9 := Tryz.zeroValue9
  t46 := Tryz.underlying185
  a46 := Tryz.isAgg185
  z46 := Tryz.sizeOf185
  v46 := Tryz.zeroValue185
  t53 := Tryz.underlying112
  a53 := Tryz.isAgg112
  z53 := Tryz.sizeOf112
  v53 := Tryz.zeroValue112 }
theorem Tryz.bits_LeadingZeros64 (x : Int) (w : World) (h0 : 0 ≤ x) (h1 : x ≤ 18446744073709551615) :
    Calls Tryz.prog 185 #[.int .u64 x] w fun e w' => e = .returned (.int .i64 (64 - (Lib.bitLen x.toNat : Int))) ∧ w' = w := Any.bits_LeadingZeros64 Tryz.lays134 x w h0 h1
def Tryz.lays106_ren : Go.Shelf.Ren := ⟨fun | 106 => 121 | 213 => 165 | 265 => 182 | n => n, fun | 9 => 9 | 3 => 3 | n => n, fun | n => n⟩
theorem Tryz.lays106 : Go.Proofs.Lays.n106 Tryz.prog Tryz.lays106_ren := {
  mixed := by kernel_rfl
  f106 := Tryz.func121.trans (congrArg some (by kernel_rfl))
  f213 := Tryz.func165.trans (congrArg some (by kernel_rfl))
  f265 := Tryz.func182.trans (congrArg some (by kernel_rfl))
  t3 := Tryz.underlying3
  a3 := Tryz.isAgg3
  z3 := Tryz.sizeOf3
  v3 := Tryz.zeroValue3
  t9 := Tryz.underlying9
  a9 := Tryz.isAgg9
  z9 := Tryz.sizeOf9
  v9 := Tryz.zeroValue9 }
open Go.RowKit in
theorem Tryz.strings_Compare (a b : ByteArray) (w : World) :
    Calls Tryz.prog 121 #[.string a, .string b] w fun e w' => e = .returned (.int .i64 (Lib.compareBytes a.data.toList b.data.toList)) ∧ w' = w := Any.strings_Compare Tryz.lays106 a b w
def Tryz.lays103_ren : Go.Shelf.Ren := ⟨fun | 103 => 152 | 210 => 176 | 206 => 190 | n => n, fun | 9 => 9 | 4 => 4 | 24 => 158 | 3 => 3 | n => n, fun | n => n⟩
theorem Tryz.lays103 : Go.Proofs.Lays.n103 Tryz.prog Tryz.lays103_ren := {
  mixed := by kernel_rfl
  f103 := Tryz.func152.trans (congrArg some (by kernel_rfl))
  f206 := Tryz.func190.trans (congrArg some (by kernel_rfl))
  f210 := Tryz.func176.trans (congrArg some (by kernel_rfl))
  t3 := Tryz.underlying3
  a3 := Tryz.isAgg3
  z3 := Tryz.sizeOf3
  v3 := Tryz.zeroValue3
  t4 := Tryz.underlying4
  a4 := Tryz.isAgg4
  z4 := Tryz.sizeOf4
  v4 := Tryz.zeroValue4
  t9 := Tryz.underlying9
  a9 := Tryz.isAgg9
  z9 := Tryz.sizeOf9
  v9 := Tryz.zeroValue9
  t24 := Tryz.underlying158
  a24 := Tryz.isAgg158
  z24 := Tryz.sizeOf158
  v24 := Tryz.zeroValue158 }
open Go.RowKit in
theorem Tryz.strings_CutPrefix (s p : ByteArray) (w : World) :
    Calls Tryz.prog 152 #[.string s, .string p] w fun e w' => e = .returned (.tuple #[.string ⟨(Lib.trimPrefix s.data.toList p.data.toList).toArray⟩, .bool (Lib.hasPrefix s.data.toList p.data.toList)]) ∧ w' = w := Any.strings_CutPrefix Tryz.lays103 s p w
def Tryz.lays283_ren : Go.Shelf.Ren := ⟨fun | 283 => 204 | n => n, fun | 3 => 3 | 9 => 9 | 4 => 4 | n => n, fun | n => n⟩
theorem Tryz.lays283 : Go.Proofs.Lays.n283 Tryz.prog Tryz.lays283_ren := {
  mixed := by kernel_rfl
  f283 := Tryz.func204.trans (congrArg some (by kernel_rfl))
  t3 := Tryz.underlying3
  a3 := Tryz.isAgg3
  z3 := Tryz.sizeOf3
  v3 := Tryz.zeroValue3
  t4 := Tryz.underlying4
  a4 := Tryz.isAgg4
  z4 := Tryz.sizeOf4
  v4 := Tryz.zeroValue4
  t9 := Tryz.underlying9
  a9 := Tryz.isAgg9
  z9 := Tryz.sizeOf9
  v9 := Tryz.zeroValue9 }
open Go.Lib in
theorem Tryz.internal_strconv_small (i : Nat) (h : i < 100) (w : World) :
    Calls Tryz.prog 204 #[.int .i64 i] w fun e w' => e = .returned (.string ⟨(Lib.decDigits i).toArray⟩) ∧ w' = w := Any.internal_strconv_small Tryz.lays283 i h w
def Tryz.laysM284_ren : Go.Shelf.Ren := ⟨fun | 284 => 205 | 129 => 196 | 317 => 210 | 318 => 211 | n => n, fun | 53 => 112 | 3 => 3 | 212 => 208 | 0 => 0 | 4 => 4 | 46 => 185 | 5 => 5 | 9 => 9 | n => n, fun | 17 => 7 | n => n⟩
theorem Tryz.laysM284 : Go.Proofs.LaysM.n284 Tryz.prog Tryz.laysM284_ren := {
  mixed := by kernel_rfl
  f129 := Tryz.func196.trans (congrArg some (by kernel_rfl))
  f284 := Tryz.func205.trans (congrArg some (by kernel_rfl))
  f317 := Tryz.func210.trans (congrArg some (by kernel_rfl))
  f318 := Tryz.func211.trans (congrArg some (by kernel_rfl))
  t0 := Tryz.underlying0
  a0 := Tryz.isAgg0
  z0 := Tryz.sizeOf0
  v0 := Tryz.zeroValue0
  t3 := Tryz.underlying3
  a3 := Tryz.isAgg3
  z3 := Tryz.sizeOf3
  v3 := Tryz.zeroValue3
  t4 := Tryz.underlying4
  a4 := Tryz.isAgg4
  z4 := Tryz.sizeOf4
  v4 := Tryz.zeroValue4
  t5 := Tryz.underlying5
  a5 := Tryz.isAgg5
  z5 := Tryz.sizeOf5
  v5 := Tryz.zeroValue5
  t9 := Tryz.underlying9
  a9 := Tryz.isAgg9
  z9 := Tryz.sizeOf9
  v9 := Tryz.zeroValue9
  t46 := Tryz.underlying185
  a46 := Tryz.isAgg185
  z46 := Tryz.sizeOf185
  v46 := Tryz.zeroValue185
  t53 := Tryz.underlying112
  a53 := Tryz.isAgg112
  z53 := Tryz.sizeOf112
  v53 := Tryz.zeroValue112
  t212 := Tryz.underlying208
  a212 := Tryz.isAgg208
  z212 := Tryz.sizeOf208
  v212 := Tryz.zeroValue208
  g17 := by kernel_rfl
  i0 := by kernel_rfl
  i3 := by kernel_rfl
  i4 := by kernel_rfl
  i5 := by kernel_rfl
  i9 := by kernel_rfl
  i46 := by kernel_rfl
  i53 := by kernel_rfl
  i212 := by kernel_rfl
  m17 := by kernel_rfl }
open Go.Lib in
theorem Tryz.internal_strconv_numDigits (u : Nat) (h1 : 1 ≤ u) (h2 : u < 18446744073709551616) (w : World) (htab : Lib.TabIs Tryz.prog w "internal/strconv.uint64pow10" .u64 Lib.pow10Tab) :
    Calls Tryz.prog 205 #[.int .u64 u] w fun e w' => e = .returned (.int .i64 (Lib.nDigits u)) ∧ w' = w := Any.internal_strconv_numDigits Tryz.laysM284 u h1 h2 w htab
def Tryz.lays285_ren : Go.Shelf.Ren := ⟨fun | 285 => 206 | n => n, fun | 37 => 133 | 53 => 112 | 3 => 3 | 4 => 4 | 51 => 204 | 9 => 9 | 5 => 5 | 0 => 0 | n => n, fun | n => n⟩
theorem Tryz.lays285 : Go.Proofs.Lays.n285 Tryz.prog Tryz.lays285_ren := {
  mixed := by kernel_rfl
  f285 := Tryz.func206.trans (congrArg some (by kernel_rfl))
  t0 := Tryz.underlying0
  a0 := Tryz.isAgg0
  z0 := Tryz.sizeOf0
  v0 := Tryz.zeroValue0
  t3 := Tryz.underlying3
  a3 := Tryz.isAgg3
  z3 := Tryz.sizeOf3
  v3 := Tryz.zeroValue3
  t4 := Tryz.underlying4
  a4 := Tryz.isAgg4
  z4 := Tryz.sizeOf4
  v4 := Tryz.zeroValue4
  t5 := Tryz.underlying5
  a5 := Tryz.isAgg5
  z5 := Tryz.sizeOf5
  v5 := Tryz.zeroValue5
  t9 := Tryz.underlying9
  a9 := Tryz.isAgg9
  z9 := Tryz.sizeOf9
  v9 := Tryz.zeroValue9
  t37 := Tryz.underlying133
  a37 := Tryz.isAgg133
  z37 := Tryz.sizeOf133
  v37 := Tryz.zeroValue133
  t51 := Tryz.underlying204
  a51 := Tryz.isAgg204
  z51 := Tryz.sizeOf204
  v51 := Tryz.zeroValue204
  t53 := Tryz.underlying112
  a53 := Tryz.isAgg112
  z53 := Tryz.sizeOf112
  v53 := Tryz.zeroValue112 }
open Go.RowKit Go.Sort Go.Lib in
theorem Tryz.internal_strconv_formatBase10 (blk off cap : Nat) (u : Nat) (d : Array UInt8) (w : World) (hH : Holds (fun (b : UInt8) => Value.int .u8 (b.toNat : Int)) w blk off d) (hu : u < 10 ^ d.size) (hu64 : u < 18446744073709551616) (hsz : d.size < 4611686018427387904) :
    Calls Tryz.prog 206 #[.slice (some ⟨blk, off, none⟩) d.size cap, .int .u64 u] w fun e w' =>
      e = .returned (.tuple #[]) ∧ ∃ (n v' : Nat) (dk : Array UInt8), w' = (putRow (fun (b : UInt8) => Value.int .u8 (b.toNat : Int)) w blk off dk).drewN n ∧ FmtInv d.size u 0 v' dk := Any.internal_strconv_formatBase10 Tryz.lays285 blk off cap u d w hH hu hu64 hsz
def Tryz.lays145_ren : Go.Shelf.Ren := ⟨fun | 145 => 153 | 220 => 177 | 219 => 191 | 217 => 198 | 225 => 199 | 224 => 200 | 267 => 201 | 266 => 208 | 314 => 209 | n => n, fun | 9 => 9 | 4 => 4 | 59 => 160 | 3 => 3 | 5 => 5 | 46 => 185 | 146 => 205 | 51 => 204 | n => n, fun | 1 => 1 | n => n⟩
theorem Tryz.lays145 : Go.Proofs.Lays.n145 Tryz.prog Tryz.lays145_ren := {
  mixed := by kernel_rfl
  f145 := Tryz.func153.trans (congrArg some (by kernel_rfl))
  f217 := Tryz.func198.trans (congrArg some (by kernel_rfl))
  f219 := Tryz.func191.trans (congrArg some (by kernel_rfl))
  f220 := Tryz.func177.trans (congrArg some (by kernel_rfl))
  f224 := Tryz.func200.trans (congrArg some (by kernel_rfl))
  f225 := Tryz.func199.trans (congrArg some (by kernel_rfl))
  f266 := Tryz.func208.trans (congrArg some (by kernel_rfl))
  f267 := Tryz.func201.trans (congrArg some (by kernel_rfl))
  f314 := Tryz.func209.trans (congrArg some (by kernel_rfl))
  t3 := Tryz.underlying3
  a3 := Tryz.isAgg3
  z3 := Tryz.sizeOf3
  v3 := Tryz.zeroValue3
  t4 := Tryz.underlying4
  a4 := Tryz.isAgg4
  z4 := Tryz.sizeOf4
  v4 := Tryz.zeroValue4
  t5 := Tryz.underlying5
  a5 := Tryz.isAgg5
  z5 := Tryz.sizeOf5
  v5 := Tryz.zeroValue5
  t9 := Tryz.underlying9
  a9 := Tryz.isAgg9
  z9 := Tryz.sizeOf9
  v9 := Tryz.zeroValue9
  t46 := Tryz.underlying185
  a46 := Tryz.isAgg185
  z46 := Tryz.sizeOf185
  v46 := Tryz.zeroValue185
  t51 := Tryz.underlying204
  a51 := Tryz.isAgg204
  z51 := Tryz.sizeOf204
  v51 := Tryz.zeroValue204
  t59 := Tryz.underlying160
  a59 := Tryz.isAgg160
  z59 := Tryz.sizeOf160
  v59 := Tryz.zeroValue160
  t146 := Tryz.underlying205
  a146 := Tryz.isAgg205
  z146 := Tryz.sizeOf205
  v146 := Tryz.zeroValue205
  g1 := by kernel_rfl }
open Go.RowKit Go.Lib in
theorem Tryz.strings_Cut (s sep : ByteArray) (m : Int) (w : World) (hs : s.size < 4294967281) (hm : w.cell? ⟨1, 0, none⟩ = some (.int .i64 m)) :
    Calls Tryz.prog 153 #[.string s, .string sep] w fun e w' => e = .returned (.tuple #[.string ⟨(Lib.cut s.data.toList sep.data.toList).1.toArray⟩, .string ⟨(Lib.cut s.data.toList sep.data.toList).2.1.toArray⟩, .bool (Lib.cut s.data.toList sep.data.toList).2.2]) ∧ ∃ n, w' = w.drewN n := Any.strings_Cut Tryz.lays145 s sep m w hs hm
def Tryz.laysM145_ren : Go.Shelf.Ren := ⟨fun | 145 => 153 | 220 => 177 | 219 => 191 | 217 => 198 | 225 => 199 | 224 => 200 | 267 => 201 | 266 => 208 | 314 => 209 | n => n, fun | 9 => 9 | 4 => 4 | 59 => 160 | 3 => 3 | 5 => 5 | 46 => 185 | 146 => 205 | 51 => 204 | n => n, fun | 1 => 1 | n => n⟩
theorem Tryz.laysM145 : Go.Proofs.LaysM.n145 Tryz.prog Tryz.laysM145_ren := {
  mixed := by kernel_rfl
  f145 := Tryz.func153.trans (congrArg some (by kernel_rfl))
  f217 := Tryz.func198.trans (congrArg some (by kernel_rfl))
  f219 := Tryz.func191.trans (congrArg some (by kernel_rfl))
  f220 := Tryz.func177.trans (congrArg some (by kernel_rfl))
  f224 := Tryz.func200.trans (congrArg some (by kernel_rfl))
  f225 := Tryz.func199.trans (congrArg some (by kernel_rfl))
  f266 := Tryz.func208.trans (congrArg some (by kernel_rfl))
  f267 := Tryz.func201.trans (congrArg some (by kernel_rfl))
  f314 := Tryz.func209.trans (congrArg some (by kernel_rfl))
  t3 := Tryz.underlying3
  a3 := Tryz.isAgg3
  z3 := Tryz.sizeOf3
  v3 := Tryz.zeroValue3
  t4 := Tryz.underlying4
  a4 := Tryz.isAgg4
  z4 := Tryz.sizeOf4
  v4 := Tryz.zeroValue4
  t5 := Tryz.underlying5
  a5 := Tryz.isAgg5
  z5 := Tryz.sizeOf5
  v5 := Tryz.zeroValue5
  t9 := Tryz.underlying9
  a9 := Tryz.isAgg9
  z9 := Tryz.sizeOf9
  v9 := Tryz.zeroValue9
  t46 := Tryz.underlying185
  a46 := Tryz.isAgg185
  z46 := Tryz.sizeOf185
  v46 := Tryz.zeroValue185
  t51 := Tryz.underlying204
  a51 := Tryz.isAgg204
  z51 := Tryz.sizeOf204
  v51 := Tryz.zeroValue204
  t59 := Tryz.underlying160
  a59 := Tryz.isAgg160
  z59 := Tryz.sizeOf160
  v59 := Tryz.zeroValue160
  t146 := Tryz.underlying205
  a146 := Tryz.isAgg205
  z146 := Tryz.sizeOf205
  v146 := Tryz.zeroValue205
  g1 := by kernel_rfl
  i3 := by kernel_rfl
  i4 := by kernel_rfl
  i5 := by kernel_rfl
  i9 := by kernel_rfl
  i46 := by kernel_rfl
  i51 := by kernel_rfl
  i59 := by kernel_rfl
  i146 := by kernel_rfl
  m1 := by kernel_rfl
  s1_3 := fun w h => Go.Proofs.cell_of_shapedOpen_int (zero := #[.int .i64 0]) (t := 3) h (of_decide_eq_true (by kernel_rfl)) (by kernel_rfl) rfl (by kernel_rfl) (by kernel_rfl) Tryz.underlying3 }
def Tryz.lays264_ren : Go.Shelf.Ren := ⟨fun | 264 => 171 | n => n, fun | 53 => 112 | 46 => 185 | n => n, fun | n => n⟩
theorem Tryz.lays264 : Go.Proofs.Lays.n264 Tryz.prog Tryz.lays264_ren := {
  mixed := by kernel_rfl
  f264 := Tryz.func171.trans (congrArg some (by kernel_rfl))
  t46 := Tryz.underlying185
  a46 := Tryz.isAgg185
  z46 := Tryz.sizeOf185
  v46 := Tryz.zeroValue185
  t53 := Tryz.underlying112
  a53 := Tryz.isAgg112
  z53 := Tryz.sizeOf112
  v53 := Tryz.zeroValue112 }
open Go.RowKit Go.Lib in
theorem Tryz.bits_Mul64 (x y : Nat) (hx : x < 18446744073709551616) (hy : y < 18446744073709551616) (w : World) :
    Calls Tryz.prog 171 #[.int .u64 x, .int .u64 y] w fun e w' => e = .returned (.tuple #[.int .u64 ((x * y / 18446744073709551616 : Nat) : Int), .int .u64 ((x * y % 18446744073709551616 : Nat) : Int)]) ∧ w' = w := Any.bits_Mul64 Tryz.lays264 x y hx hy w
end Go.Proofs

namespace Go.Proofs.YtbeijnflfmjgfaaGreatDoor
open Go.RowKit

set_option maxHeartbeats 400000 in
theorem div64_low (lo y : Nat) (w : World) (h1 : lo < 18446744073709551616) (hy0 : 0 < y) (hy1 : y < 18446744073709551616) :
    Calls Tryz.prog 172 #[.int .u64 0, .int .u64 (lo : Int), .int .u64 (y : Int)] w fun e w' => e = .returned (.tuple #[.int .u64 ((lo / y : Nat) : Int), .int .u64 ((lo % y : Nat) : Int)]) ∧ Below w.heap.size w w' := by
  have hne : ((y : Int) == 0) = false := by rw [beq_eq_false_iff_ne]; omega
  go_enter Tryz.func172, Tryz.ntmps172
  go_wp2
  go_quiet (fail)
  go_wp2
  go_ret2
  refine ⟨ret_ne ?_ rfl, below_drewN (Below.refl _ _) _⟩
  have : lo / y ≤ lo := Nat.div_le_self _ _
  exact Mul64.wrapN (lo / y) (by omega)

theorem int_eq {k : IntKind} {a b : Int} (h : a = b) : Value.int k a = Value.int k b := by rw [h]

set_option maxRecDepth 100000 in
set_option maxHeartbeats 1000000 in
theorem div64_high (hi lo y : Nat) (w : World) (hh : 0 < hi) (hhy : hi < y) (h1 : lo < 18446744073709551616) (hy1 : y < 18446744073709551616) :
    Calls Tryz.prog 172 #[.int .u64 (hi : Int), .int .u64 (lo : Int), .int .u64 (y : Int)] w fun e w' => e = .returned (.tuple #[.int .u64 (((hi * 18446744073709551616 + lo) / y : Nat) : Int), .int .u64 (((hi * 18446744073709551616 + lo) % y : Nat) : Int)]) ∧ Below w.heap.size w w' := by
  have hne : ((y : Int) == 0) = false := by rw [beq_eq_false_iff_ne]; omega
  have hnh : ((hi : Int) == 0) = false := by rw [beq_eq_false_iff_ne]; omega
  have hnle : ¬ (y : Int) ≤ (hi : Int) := by omega
  obtain ⟨s, Y, H, L, u, v, hs, hs2, hY, hY1, hY2, hH, hH2, hL, hL2, hu, hu2, hv, hv2, heq⟩ := Dv.norm hi lo y hhy h1 hy1
  have HEQ := hide heq
  have HY := hide hY
  clear heq
  have rs : (64 - ((Lib.bitLen (y : Int).toNat : Nat) : Int)) = (s : Int) := by rw [Int.toNat_natCast]; omega
  have RS := hide rs
  clear rs
  have HS := hide hs
  clear hs
  have m1 : min s 64 = s := by omega
  have m2 : (64 - (s : Int)).toNat = 64 - s := by omega
  have m3 : min (64 - s) 64 = 64 - s := by omega
  have r1 : (y : Int) * 2 ^ s = (Y : Int) := by rw [← hY]; simp
  have r2 : (hi : Int) * 2 ^ s = (H : Int) := by rw [← hH]; simp
  have r3 : (lo : Int) / 2 ^ (64 - s) = (L : Int) := by rw [← hL]; simp
  have r4 : bits BinOp.or IntKind.u64 (H : Int) (L : Int) = (u : Int) := by rw [← hu]; exact bits_or_u64_nat H L hH2 hL2
  have r5 : IntKind.u64.wrap ((lo : Int) * 2 ^ s) = (v : Int) := by rw [IntKind.wrap_u64, ← hv]; simp
  obtain ⟨y1, y0, hy10, hy0, ry1, ry0⟩ : ∃ y1 y0 : Nat, Y = y1 * 4294967296 + y0 ∧ y0 < 4294967296 ∧ (Y : Int) / 4294967296 = (y1 : Int) ∧ bits BinOp.and IntKind.u64 (Y : Int) 4294967295 = (y0 : Int) :=
    ⟨Y / 4294967296, Y % 4294967296, by omega, by omega, by omega, Mul64.maskN Y hY2⟩
  obtain ⟨v1, v0, hv10, hv0, rv1, rv0⟩ : ∃ v1 v0 : Nat, v = v1 * 4294967296 + v0 ∧ v0 < 4294967296 ∧ (v : Int) / 4294967296 = (v1 : Int) ∧ bits BinOp.and IntKind.u64 (v : Int) 4294967295 = (v0 : Int) :=
    ⟨v / 4294967296, v % 4294967296, by omega, by omega, by omega, Mul64.maskN v hv2⟩
  have hy1b : 2147483648 ≤ y1 := by omega
  have hv1b : v1 < 4294967296 := by omega
  have hy1c : y1 < 4294967296 := by omega
  have HY10 := hide hy10
  have HV10 := hide hv10
  clear hy10 hv10 hY hH hL hu hv
  obtain ⟨f1, f2, f3, f4⟩ := Dv.first y1 y0 u v1 (by rw [← unhide HY10]; exact hu2) hv1b hy0 hy1b
  have F1 := hide f1
  have F3 := hide f3
  clear f1 f3
  obtain ⟨q, r, hq, hr⟩ : ∃ q r : Nat, u / y1 = q ∧ u % y1 = r := ⟨_, _, rfl, rfl⟩
  have rq : (u : Int).tdiv (y1 : Int) = (q : Int) := by rw [← hq]; rfl
  have rq' : (u : Int) / (y1 : Int) = (q : Int) := by rw [← hq]; rfl
  have HQ := hide hq
  have HR := hide hr
  have rqy : (q : Int) * (y1 : Int) = (u : Int) - (r : Int) := by
    have h := unhide F3
    rw [hq, hr] at h
    have h2 : ((q * y1 : Nat) : Int) + (r : Int) = (u : Int) := by rw [← Int.natCast_add, h]
    rw [Int.natCast_mul] at h2; omega
  have hru : r ≤ u := by rw [← hr]; exact Nat.mod_le _ _
  rw [hq] at f2
  rw [hr] at f4
  clear hq hr
  have rr : (u : Int) - ((u : Int) - (r : Int)) = (r : Int) := by omega
  obtain ⟨Q1, hQ1⟩ : ∃ Q1 : Nat, Dv.dig (y1 * 4294967296 + y0) u v1 = Q1 := ⟨_, rfl⟩
  have HQ1 := hide hQ1
  rw [hQ1] at F1
  have hQ1b : Q1 < 4294967296 := by rw [← hQ1]; exact Dv.dig_lt _ u v1 (by rw [← unhide HY10]; exact hu2) hv1b
  clear hQ1
  go_enter Tryz.func172, Tryz.ntmps172
  go_wp2_with fail
  refine (Tryz.bits_LeadingZeros64 _ _ (by omega) (by omega)).mono ?_
  rintro e w' ⟨rfl, rfl⟩
  rw [unhide RS]
  go_upto_block 0 with fail
  go_cut [15, 16] from 67 to 85 (fun a b wx => a = .int .u64 (Q1 : Int) ∧ wx = w')
  case first =>
    go_wp2_with fail
    go_loop [15, 16] (fun a b => ∃ q r : Nat, a = .int .u64 (q : Int) ∧ b = .int .u64 (r : Int) ∧ Hid (q * y1 + r = u) ∧ Hid (Q1 ≤ q) ∧ q ≤ 4294967297 ∧ r < 4294967296) (fun a _ => (intOf a).toNat)
    case atStart => exact ⟨q, r, rfl, rfl, hide (by rw [← unhide HQ, ← unhide HR]; exact unhide F3), hide (by rw [← unhide HQ]; exact unhide F1), f2, by omega⟩
    case round =>
      clear rq rq' rqy rr r1 r2 r3 r4 r5 ry1 ry0 rv1 rv0 m1 m2 m3 HQ HR F1 F3 f2 f4 hru
      obtain ⟨q, r, rfl, rfl, H1, H2, hq, hr⟩ := hrel
      by_cases c1 : 4294967296 ≤ q
      · have tb := Dv.too_big y1 y0 u v1 q r (by rw [← unhide HY10]; exact hu2) hv1b (unhide H1) (Or.inl c1)
        by_cases c2 : 4294967296 ≤ r + y1
        · have hfin := hide (Dv.brk y1 y0 u v1 (q - 1) (r + y1) (by rw [← unhide HY10]; exact hu2) hy0 (Dv.next (unhide H1) (by omega)) (by omega) c2 (by omega))
          have TB := hide tb
          clear tb
          have iq : (q : Int) ≤ 4294967297 := by omega
          have ir : (r : Int) < 4294967296 := by omega
          have iy : (y1 : Int) < 4294967296 := by omega
          have iv : (v1 : Int) < 4294967296 := by omega
          have i1 : (4294967296 : Int) ≤ (q : Int) := by omega
          have i2 : (4294967296 : Int) ≤ (r : Int) + (y1 : Int) := by omega
          clear hq hr c1 c2
          generalize hqi : (q : Int) = qi at *
          have Hqi := hide hqi
          clear hqi
          generalize hri : (r : Int) = ri at *
          have Hri := hide hri
          clear hri
          generalize hy1i : (y1 : Int) = y1i at *
          have Hy1i := hide hy1i
          clear hy1i
          generalize hvi : (v1 : Int) = vi at *
          have Hvi := hide hvi
          clear hvi
          have pqi : 0 ≤ qi := by rw [← unhide Hqi]; omega
          have pri : 0 ≤ ri := by rw [← unhide Hri]; omega
          have py1i : 0 ≤ y1i := by rw [← unhide Hy1i]; omega
          have pvi : 0 ≤ vi := by rw [← unhide Hvi]; omega
          go_wp2
          have hqi := unhide Hqi
          subst hqi
          have hri := unhide Hri
          subst hri
          have hy1i := unhide Hy1i
          subst hy1i
          have hvi := unhide Hvi
          subst hvi
          go_meet
          case rel => exact ⟨int_eq (by rw [← unhide HQ1, ← unhide hfin]; omega), rfl⟩
        · have TB := hide tb
          clear tb
          have iq : (q : Int) ≤ 4294967297 := by omega
          have ir : (r : Int) < 4294967296 := by omega
          have iy : (y1 : Int) < 4294967296 := by omega
          have iv : (v1 : Int) < 4294967296 := by omega
          have i1 : (4294967296 : Int) ≤ (q : Int) := by omega
          have i2 : (r : Int) + (y1 : Int) < 4294967296 := by omega
          clear hq hr c1 c2
          generalize hqi : (q : Int) = qi at *
          have Hqi := hide hqi
          clear hqi
          generalize hri : (r : Int) = ri at *
          have Hri := hide hri
          clear hri
          generalize hy1i : (y1 : Int) = y1i at *
          have Hy1i := hide hy1i
          clear hy1i
          generalize hvi : (v1 : Int) = vi at *
          have Hvi := hide hvi
          clear hvi
          have pqi : 0 ≤ qi := by rw [← unhide Hqi]; omega
          have pri : 0 ≤ ri := by rw [← unhide Hri]; omega
          have py1i : 0 ≤ y1i := by rw [← unhide Hy1i]; omega
          have pvi : 0 ≤ vi := by rw [← unhide Hvi]; omega
          go_wp2
          have hqi := unhide Hqi
          subst hqi
          have hri := unhide Hri
          subst hri
          have hy1i := unhide Hy1i
          subst hy1i
          have hvi := unhide Hvi
          subst hvi
          go_round
          case rel => exact ⟨q - 1, r + y1, int_eq (by omega), int_eq (by omega), hide (Dv.next (unhide H1) (by omega)), hide (by have := unhide TB; have := unhide HQ1; omega), by omega, by omega⟩
          case measure => simp [intOf]; omega
      · obtain ⟨Z, hZ⟩ : ∃ Z : Nat, q * y0 = Z := ⟨_, rfl⟩
        have hZb : Z < 18446744073709551616 := by
          rw [← hZ]
          have a : q * y0 ≤ 4294967295 * y0 := Nat.mul_le_mul_right _ (by omega)
          omega
        have rz : (q : Int) * (y0 : Int) = (Z : Int) := by rw [← hZ, Int.natCast_mul]
        have HZ := hide hZ
        clear hZ
        by_cases c3 : 4294967296 * r + v1 < Z
        · have tb := Dv.too_big y1 y0 u v1 q r (by rw [← unhide HY10]; exact hu2) hv1b (unhide H1) (Or.inr (by rw [unhide HZ]; exact c3))
          have hq1 : 1 ≤ q := by omega
          by_cases c2 : 4294967296 ≤ r + y1
          · have hfin := hide (Dv.brk y1 y0 u v1 (q - 1) (r + y1) (by rw [← unhide HY10]; exact hu2) hy0 (Dv.next (unhide H1) (by omega)) (by omega) c2 (by omega))
            have TB := hide tb
            clear tb
            have iq : (q : Int) ≤ 4294967297 := by omega
            have ir : (r : Int) < 4294967296 := by omega
            have iy : (y1 : Int) < 4294967296 := by omega
            have iv : (v1 : Int) < 4294967296 := by omega
            have i1 : (q : Int) < 4294967296 := by omega
            have iz : (Z : Int) < 18446744073709551616 := by omega
            have i3 : 4294967296 * (r : Int) + (v1 : Int) < (Z : Int) := by omega
            have i4 : (1 : Int) ≤ (q : Int) := by omega
            have i2 : (4294967296 : Int) ≤ (r : Int) + (y1 : Int) := by omega
            clear hq hr c1 hZb c3 hq1 c2
            generalize hqi : (q : Int) = qi at *
            have Hqi := hide hqi
            clear hqi
            generalize hri : (r : Int) = ri at *
            have Hri := hide hri
            clear hri
            generalize hy1i : (y1 : Int) = y1i at *
            have Hy1i := hide hy1i
            clear hy1i
            generalize hvi : (v1 : Int) = vi at *
            have Hvi := hide hvi
            clear hvi
            generalize hzi : (Z : Int) = zi at *
            have Hzi := hide hzi
            clear hzi
            have pqi : 0 ≤ qi := by rw [← unhide Hqi]; omega
            have pri : 0 ≤ ri := by rw [← unhide Hri]; omega
            have py1i : 0 ≤ y1i := by rw [← unhide Hy1i]; omega
            have pvi : 0 ≤ vi := by rw [← unhide Hvi]; omega
            have pzi : 0 ≤ zi := by rw [← unhide Hzi]; omega
            go_wp2
            have hqi := unhide Hqi
            subst hqi
            have hri := unhide Hri
            subst hri
            have hy1i := unhide Hy1i
            subst hy1i
            have hvi := unhide Hvi
            subst hvi
            have hzi := unhide Hzi
            subst hzi
            go_meet
            case rel => exact ⟨int_eq (by rw [← unhide HQ1, ← unhide hfin]; omega), rfl⟩
          · have TB := hide tb
            clear tb
            have iq : (q : Int) ≤ 4294967297 := by omega
            have ir : (r : Int) < 4294967296 := by omega
            have iy : (y1 : Int) < 4294967296 := by omega
            have iv : (v1 : Int) < 4294967296 := by omega
            have i1 : (q : Int) < 4294967296 := by omega
            have iz : (Z : Int) < 18446744073709551616 := by omega
            have i3 : 4294967296 * (r : Int) + (v1 : Int) < (Z : Int) := by omega
            have i4 : (1 : Int) ≤ (q : Int) := by omega
            have i2 : (r : Int) + (y1 : Int) < 4294967296 := by omega
            clear hq hr c1 hZb c3 hq1 c2
            generalize hqi : (q : Int) = qi at *
            have Hqi := hide hqi
            clear hqi
            generalize hri : (r : Int) = ri at *
            have Hri := hide hri
            clear hri
            generalize hy1i : (y1 : Int) = y1i at *
            have Hy1i := hide hy1i
            clear hy1i
            generalize hvi : (v1 : Int) = vi at *
            have Hvi := hide hvi
            clear hvi
            generalize hzi : (Z : Int) = zi at *
            have Hzi := hide hzi
            clear hzi
            have pqi : 0 ≤ qi := by rw [← unhide Hqi]; omega
            have pri : 0 ≤ ri := by rw [← unhide Hri]; omega
            have py1i : 0 ≤ y1i := by rw [← unhide Hy1i]; omega
            have pvi : 0 ≤ vi := by rw [← unhide Hvi]; omega
            have pzi : 0 ≤ zi := by rw [← unhide Hzi]; omega
            go_wp2
            have hqi := unhide Hqi
            subst hqi
            have hri := unhide Hri
            subst hri
            have hy1i := unhide Hy1i
            subst hy1i
            have hvi := unhide Hvi
            subst hvi
            have hzi := unhide Hzi
            subst hzi
            go_round
            case rel => exact ⟨q - 1, r + y1, int_eq (by omega), int_eq (by omega), hide (Dv.next (unhide H1) (by omega)), hide (by have := unhide TB; have := unhide HQ1; omega), by omega, by omega⟩
            case measure => simp [intOf]; omega
        · have hfin := hide (Dv.small y1 y0 u v1 q r (by rw [← unhide HY10]; exact hu2) (unhide H1) (by rw [unhide HQ1]; exact unhide H2) (by rw [unhide HZ]; omega))
          have iq : (q : Int) ≤ 4294967297 := by omega
          have ir : (r : Int) < 4294967296 := by omega
          have iy : (y1 : Int) < 4294967296 := by omega
          have iv : (v1 : Int) < 4294967296 := by omega
          have i1 : (q : Int) < 4294967296 := by omega
          have iz : (Z : Int) < 18446744073709551616 := by omega
          have i3 : (Z : Int) ≤ 4294967296 * (r : Int) + (v1 : Int) := by omega
          clear hq hr c1 hZb c3
          generalize hqi : (q : Int) = qi at *
          have Hqi := hide hqi
          clear hqi
          generalize hri : (r : Int) = ri at *
          have Hri := hide hri
          clear hri
          generalize hy1i : (y1 : Int) = y1i at *
          have Hy1i := hide hy1i
          clear hy1i
          generalize hvi : (v1 : Int) = vi at *
          have Hvi := hide hvi
          clear hvi
          generalize hzi : (Z : Int) = zi at *
          have Hzi := hide hzi
          clear hzi
          have pqi : 0 ≤ qi := by rw [← unhide Hqi]; omega
          have pri : 0 ≤ ri := by rw [← unhide Hri]; omega
          have py1i : 0 ≤ y1i := by rw [← unhide Hy1i]; omega
          have pvi : 0 ≤ vi := by rw [← unhide Hvi]; omega
          have pzi : 0 ≤ zi := by rw [← unhide Hzi]; omega
          go_wp2
          have hqi := unhide Hqi
          subst hqi
          have hri := unhide Hri
          subst hri
          have hy1i := unhide Hy1i
          subst hy1i
          have hvi := unhide Hvi
          subst hvi
          have hzi := unhide Hzi
          subst hzi
          go_meet
          case rel => exact ⟨int_eq (by rw [← unhide HQ1, ← unhide hfin]), rfl⟩
  case rest =>
  obtain ⟨rfl, rfl⟩ := hcut
  clear rq rq' rqy rr r1 r2 r3 r4 r5 ry1 ry0 rv1 rv0 m2 m3 HQ HR F1 F3 f2 f4 hru
  obtain ⟨l1, l2, l3⟩ := Dv.left Y u v1 (by omega)
  have ed : Dv.dig Y u v1 = Q1 := by rw [unhide HY10]; exact unhide HQ1
  rw [ed] at l1 l2 l3
  obtain ⟨u2, hu2e⟩ : ∃ u2 : Nat, (u * 4294967296 + v1) % Y = u2 := ⟨_, rfl⟩
  have hu2b : u2 < Y := by rw [← hu2e, ← l2]; exact l3
  have r6 : IntKind.u64.wrap (IntKind.u64.wrap (IntKind.u64.wrap ((u : Int) * 4294967296) + (v1 : Int)) - IntKind.u64.wrap ((Q1 : Int) * (Y : Int))) = (u2 : Int) := by
    rw [← hu2e, ← l2, IntKind.wrap_u64, IntKind.wrap_u64, IntKind.wrap_u64, IntKind.wrap_u64, ← Int.natCast_mul]
    generalize Q1 * Y = P at *
    omega
  have HU2E := hide hu2e
  clear hu2e l1 l2 l3 ed
  obtain ⟨g1, g2, g3, g4⟩ := Dv.first y1 y0 u2 v0 (by rw [← unhide HY10]; exact hu2b) hv0 hy0 hy1b
  have G1 := hide g1
  have G3 := hide g3
  clear g1 g3
  obtain ⟨p, t, hp, ht⟩ : ∃ p t : Nat, u2 / y1 = p ∧ u2 % y1 = t := ⟨_, _, rfl, rfl⟩
  have rp : (u2 : Int).tdiv (y1 : Int) = (p : Int) := by rw [← hp]; rfl
  have rp' : (u2 : Int) / (y1 : Int) = (p : Int) := by rw [← hp]; rfl
  have HP := hide hp
  have HT := hide ht
  have rpy : (p : Int) * (y1 : Int) = (u2 : Int) - (t : Int) := by
    have h := unhide G3
    rw [hp, ht] at h
    have h2 : ((p * y1 : Nat) : Int) + (t : Int) = (u2 : Int) := by rw [← Int.natCast_add, h]
    rw [Int.natCast_mul] at h2; omega
  have htu : t ≤ u2 := by rw [← ht]; exact Nat.mod_le _ _
  rw [hp] at g2
  rw [ht] at g4
  clear hp ht
  have rr : (u2 : Int) - ((u2 : Int) - (t : Int)) = (t : Int) := by omega
  obtain ⟨Q0, hQ0⟩ : ∃ Q0 : Nat, Dv.dig (y1 * 4294967296 + y0) u2 v0 = Q0 := ⟨_, rfl⟩
  have HQ0 := hide hQ0
  rw [hQ0] at G1
  have hQ0b : Q0 < 4294967296 := by rw [← hQ0]; exact Dv.dig_lt _ u2 v0 (by rw [← unhide HY10]; exact hu2b) hv0
  clear hQ0
  go_upto_block 2 with fail
  go_cut [18, 16] from 102 to 120 (fun a b wx => a = .int .u64 (Q0 : Int) ∧ wx = wc)
  case first =>
    go_wp2_with fail
    go_loop [18, 16] (fun a b => ∃ q r : Nat, a = .int .u64 (q : Int) ∧ b = .int .u64 (r : Int) ∧ Hid (q * y1 + r = u2) ∧ Hid (Q0 ≤ q) ∧ q ≤ 4294967297 ∧ r < 4294967296) (fun a _ => (intOf a).toNat)
    case atStart => exact ⟨p, t, rfl, rfl, hide (by rw [← unhide HP, ← unhide HT]; exact unhide G3), hide (by rw [← unhide HP]; exact unhide G1), g2, by omega⟩
    case round =>
      clear rp rp' rpy rr r6 m1 HP HT G1 G3 g2 g4 htu
      obtain ⟨q, r, rfl, rfl, H1, H2, hq, hr⟩ := hrel
      by_cases c1 : 4294967296 ≤ q
      · have tb := Dv.too_big y1 y0 u2 v0 q r (by rw [← unhide HY10]; exact hu2b) hv0 (unhide H1) (Or.inl c1)
        by_cases c2 : 4294967296 ≤ r + y1
        · have hfin := hide (Dv.brk y1 y0 u2 v0 (q - 1) (r + y1) (by rw [← unhide HY10]; exact hu2b) hy0 (Dv.next (unhide H1) (by omega)) (by omega) c2 (by omega))
          have TB := hide tb
          clear tb
          have iq : (q : Int) ≤ 4294967297 := by omega
          have ir : (r : Int) < 4294967296 := by omega
          have iy : (y1 : Int) < 4294967296 := by omega
          have iv : (v0 : Int) < 4294967296 := by omega
          have i1 : (4294967296 : Int) ≤ (q : Int) := by omega
          have i2 : (4294967296 : Int) ≤ (r : Int) + (y1 : Int) := by omega
          clear hq hr c1 c2
          generalize hqi : (q : Int) = qi at *
          have Hqi := hide hqi
          clear hqi
          generalize hri : (r : Int) = ri at *
          have Hri := hide hri
          clear hri
          generalize hy1i : (y1 : Int) = y1i at *
          have Hy1i := hide hy1i
          clear hy1i
          generalize hvi : (v0 : Int) = vi at *
          have Hvi := hide hvi
          clear hvi
          have pqi : 0 ≤ qi := by rw [← unhide Hqi]; omega
          have pri : 0 ≤ ri := by rw [← unhide Hri]; omega
          have py1i : 0 ≤ y1i := by rw [← unhide Hy1i]; omega
          have pvi : 0 ≤ vi := by rw [← unhide Hvi]; omega
          go_wp2
          have hqi := unhide Hqi
          subst hqi
          have hri := unhide Hri
          subst hri
          have hy1i := unhide Hy1i
          subst hy1i
          have hvi := unhide Hvi
          subst hvi
          go_meet
          case rel => exact ⟨int_eq (by rw [← unhide HQ0, ← unhide hfin]; omega), rfl⟩
        · have TB := hide tb
          clear tb
          have iq : (q : Int) ≤ 4294967297 := by omega
          have ir : (r : Int) < 4294967296 := by omega
          have iy : (y1 : Int) < 4294967296 := by omega
          have iv : (v0 : Int) < 4294967296 := by omega
          have i1 : (4294967296 : Int) ≤ (q : Int) := by omega
          have i2 : (r : Int) + (y1 : Int) < 4294967296 := by omega
          clear hq hr c1 c2
          generalize hqi : (q : Int) = qi at *
          have Hqi := hide hqi
          clear hqi
          generalize hri : (r : Int) = ri at *
          have Hri := hide hri
          clear hri
          generalize hy1i : (y1 : Int) = y1i at *
          have Hy1i := hide hy1i
          clear hy1i
          generalize hvi : (v0 : Int) = vi at *
          have Hvi := hide hvi
          clear hvi
          have pqi : 0 ≤ qi := by rw [← unhide Hqi]; omega
          have pri : 0 ≤ ri := by rw [← unhide Hri]; omega
          have py1i : 0 ≤ y1i := by rw [← unhide Hy1i]; omega
          have pvi : 0 ≤ vi := by rw [← unhide Hvi]; omega
          go_wp2
          have hqi := unhide Hqi
          subst hqi
          have hri := unhide Hri
          subst hri
          have hy1i := unhide Hy1i
          subst hy1i
          have hvi := unhide Hvi
          subst hvi
          go_round
          case rel => exact ⟨q - 1, r + y1, int_eq (by omega), int_eq (by omega), hide (Dv.next (unhide H1) (by omega)), hide (by have := unhide TB; have := unhide HQ0; omega), by omega, by omega⟩
          case measure => simp [intOf]; omega
      · obtain ⟨Z, hZ⟩ : ∃ Z : Nat, q * y0 = Z := ⟨_, rfl⟩
        have hZb : Z < 18446744073709551616 := by
          rw [← hZ]
          have a : q * y0 ≤ 4294967295 * y0 := Nat.mul_le_mul_right _ (by omega)
          omega
        have rz : (q : Int) * (y0 : Int) = (Z : Int) := by rw [← hZ, Int.natCast_mul]
        have HZ := hide hZ
        clear hZ
        by_cases c3 : 4294967296 * r + v0 < Z
        · have tb := Dv.too_big y1 y0 u2 v0 q r (by rw [← unhide HY10]; exact hu2b) hv0 (unhide H1) (Or.inr (by rw [unhide HZ]; exact c3))
          have hq1 : 1 ≤ q := by omega
          by_cases c2 : 4294967296 ≤ r + y1
          · have hfin := hide (Dv.brk y1 y0 u2 v0 (q - 1) (r + y1) (by rw [← unhide HY10]; exact hu2b) hy0 (Dv.next (unhide H1) (by omega)) (by omega) c2 (by omega))
            have TB := hide tb
            clear tb
            have iq : (q : Int) ≤ 4294967297 := by omega
            have ir : (r : Int) < 4294967296 := by omega
            have iy : (y1 : Int) < 4294967296 := by omega
            have iv : (v0 : Int) < 4294967296 := by omega
            have i1 : (q : Int) < 4294967296 := by omega
            have iz : (Z : Int) < 18446744073709551616 := by omega
            have i3 : 4294967296 * (r : Int) + (v0 : Int) < (Z : Int) := by omega
            have i4 : (1 : Int) ≤ (q : Int) := by omega
            have i2 : (4294967296 : Int) ≤ (r : Int) + (y1 : Int) := by omega
            clear hq hr c1 hZb c3 hq1 c2
            generalize hqi : (q : Int) = qi at *
            have Hqi := hide hqi
            clear hqi
            generalize hri : (r : Int) = ri at *
            have Hri := hide hri
            clear hri
            generalize hy1i : (y1 : Int) = y1i at *
            have Hy1i := hide hy1i
            clear hy1i
            generalize hvi : (v0 : Int) = vi at *
            have Hvi := hide hvi
            clear hvi
            generalize hzi : (Z : Int) = zi at *
            have Hzi := hide hzi
            clear hzi
            have pqi : 0 ≤ qi := by rw [← unhide Hqi]; omega
            have pri : 0 ≤ ri := by rw [← unhide Hri]; omega
            have py1i : 0 ≤ y1i := by rw [← unhide Hy1i]; omega
            have pvi : 0 ≤ vi := by rw [← unhide Hvi]; omega
            have pzi : 0 ≤ zi := by rw [← unhide Hzi]; omega
            go_wp2
            have hqi := unhide Hqi
            subst hqi
            have hri := unhide Hri
            subst hri
            have hy1i := unhide Hy1i
            subst hy1i
            have hvi := unhide Hvi
            subst hvi
            have hzi := unhide Hzi
            subst hzi
            go_meet
            case rel => exact ⟨int_eq (by rw [← unhide HQ0, ← unhide hfin]; omega), rfl⟩
          · have TB := hide tb
            clear tb
            have iq : (q : Int) ≤ 4294967297 := by omega
            have ir : (r : Int) < 4294967296 := by omega
            have iy : (y1 : Int) < 4294967296 := by omega
            have iv : (v0 : Int) < 4294967296 := by omega
            have i1 : (q : Int) < 4294967296 := by omega
            have iz : (Z : Int) < 18446744073709551616 := by omega
            have i3 : 4294967296 * (r : Int) + (v0 : Int) < (Z : Int) := by omega
            have i4 : (1 : Int) ≤ (q : Int) := by omega
            have i2 : (r : Int) + (y1 : Int) < 4294967296 := by omega
            clear hq hr c1 hZb c3 hq1 c2
            generalize hqi : (q : Int) = qi at *
            have Hqi := hide hqi
            clear hqi
            generalize hri : (r : Int) = ri at *
            have Hri := hide hri
            clear hri
            generalize hy1i : (y1 : Int) = y1i at *
            have Hy1i := hide hy1i
            clear hy1i
            generalize hvi : (v0 : Int) = vi at *
            have Hvi := hide hvi
            clear hvi
            generalize hzi : (Z : Int) = zi at *
            have Hzi := hide hzi
            clear hzi
            have pqi : 0 ≤ qi := by rw [← unhide Hqi]; omega
            have pri : 0 ≤ ri := by rw [← unhide Hri]; omega
            have py1i : 0 ≤ y1i := by rw [← unhide Hy1i]; omega
            have pvi : 0 ≤ vi := by rw [← unhide Hvi]; omega
            have pzi : 0 ≤ zi := by rw [← unhide Hzi]; omega
            go_wp2
            have hqi := unhide Hqi
            subst hqi
            have hri := unhide Hri
            subst hri
            have hy1i := unhide Hy1i
            subst hy1i
            have hvi := unhide Hvi
            subst hvi
            have hzi := unhide Hzi
            subst hzi
            go_round
            case rel => exact ⟨q - 1, r + y1, int_eq (by omega), int_eq (by omega), hide (Dv.next (unhide H1) (by omega)), hide (by have := unhide TB; have := unhide HQ0; omega), by omega, by omega⟩
            case measure => simp [intOf]; omega
        · have hfin := hide (Dv.small y1 y0 u2 v0 q r (by rw [← unhide HY10]; exact hu2b) (unhide H1) (by rw [unhide HQ0]; exact unhide H2) (by rw [unhide HZ]; omega))
          have iq : (q : Int) ≤ 4294967297 := by omega
          have ir : (r : Int) < 4294967296 := by omega
          have iy : (y1 : Int) < 4294967296 := by omega
          have iv : (v0 : Int) < 4294967296 := by omega
          have i1 : (q : Int) < 4294967296 := by omega
          have iz : (Z : Int) < 18446744073709551616 := by omega
          have i3 : (Z : Int) ≤ 4294967296 * (r : Int) + (v0 : Int) := by omega
          clear hq hr c1 hZb c3
          generalize hqi : (q : Int) = qi at *
          have Hqi := hide hqi
          clear hqi
          generalize hri : (r : Int) = ri at *
          have Hri := hide hri
          clear hri
          generalize hy1i : (y1 : Int) = y1i at *
          have Hy1i := hide hy1i
          clear hy1i
          generalize hvi : (v0 : Int) = vi at *
          have Hvi := hide hvi
          clear hvi
          generalize hzi : (Z : Int) = zi at *
          have Hzi := hide hzi
          clear hzi
          have pqi : 0 ≤ qi := by rw [← unhide Hqi]; omega
          have pri : 0 ≤ ri := by rw [← unhide Hri]; omega
          have py1i : 0 ≤ y1i := by rw [← unhide Hy1i]; omega
          have pvi : 0 ≤ vi := by rw [← unhide Hvi]; omega
          have pzi : 0 ≤ zi := by rw [← unhide Hzi]; omega
          go_wp2
          have hqi := unhide Hqi
          subst hqi
          have hri := unhide Hri
          subst hri
          have hy1i := unhide Hy1i
          subst hy1i
          have hvi := unhide Hvi
          subst hvi
          have hzi := unhide Hzi
          subst hzi
          go_meet
          case rel => exact ⟨int_eq (by rw [← unhide HQ0, ← unhide hfin]), rfl⟩
  case rest =>
  obtain ⟨rfl, rfl⟩ := hcut
  clear rp rp' rpy rr r6 HP HT G1 G3 g2 g4 htu
  obtain ⟨l1, l2, l3⟩ := Dv.left Y u2 v0 (by omega)
  have ed : Dv.dig Y u2 v0 = Q0 := by rw [unhide HY10]; exact unhide HQ0
  rw [ed] at l1 l2 l3
  have h2 := Dv.two Y u v1 v0 (by omega)
  have hb := Dv.back hi lo y s Y u v (unhide HY) (unhide HEQ)
  rw [unhide HU2E, ed, show Dv.dig Y u v1 = Q1 by rw [unhide HY10]; exact unhide HQ1, ← unhide HV10] at h2
  rw [h2.1, h2.2] at hb
  obtain ⟨u3, hu3e⟩ : ∃ u3 : Nat, (u2 * 4294967296 + v0) % Y = u3 := ⟨_, rfl⟩
  rw [hu3e] at hb
  have hu3b : u3 < Y := by rw [← hu3e, ← l2]; exact l3
  have r7 : IntKind.u64.wrap (IntKind.u64.wrap (IntKind.u64.wrap ((u2 : Int) * 4294967296) + (v0 : Int)) - IntKind.u64.wrap ((Q0 : Int) * (Y : Int))) = (u3 : Int) := by
    rw [← hu3e, ← l2, IntKind.wrap_u64, IntKind.wrap_u64, IntKind.wrap_u64, IntKind.wrap_u64, ← Int.natCast_mul]
    generalize Q0 * Y = P at *
    omega
  have HB := hide hb
  clear hb h2 ed l1 l2 l3 hu3e
  go_wp2
  go_ret2
  refine ⟨ret_ne ?_ ?_, Below.refl _ _⟩
  · rw [← (unhide HB).1]; simp
  · rw [← (unhide HB).2]; simp
end Go.Proofs.YtbeijnflfmjgfaaGreatDoor
