/- New slices of one to four bytes: made, and turned into strings; bits of bytes. -/
import Derived.Test.YtemfcaaoobjgkaaGreatDoorProg
import Derived.WalkKit
import Derived.Below
import Derived.Laws.BytesArg
import Derived.Laws.BitsAllLaws
import Derived.Laws.Bits128
import Derived.WalkLawsBesides
import Derived.Lib.Hide
namespace Go.Proofs.YtemfcaaoobjgkaaGreatDoor
open Go.RowKit

theorem i64_and128_fin : ∀ a : Fin 256, bits .and .i64 (a.val : Int) 128 = if a.val < 128 then 0 else 128 := by decide +kernel
theorem i64_and128 (x : Int) (h0 : 0 ≤ x) (h1 : x < 256) : bits .and .i64 x 128 = if x < 128 then 0 else 128 := by
  have := i64_and128_fin ⟨x.toNat, by omega⟩
  simp only [Int.toNat_of_nonneg h0] at this
  rw [this]
  by_cases h : x < 128
  · rw [if_pos (by omega), if_pos h]
  · rw [if_neg (by omega), if_neg h]
theorem wraps_i64' (n : Int) (h0 : 0 ≤ n) (h1 : n < 2 ^ 62) : IntKind.i64.wrap n = n := by
  rw [IntKind.wrap_i64]; omega
theorem i64_or (i : Nat) (x y : Int) (hx₀ : 0 ≤ x) (hx : x % 2 ^ i = 0) (hx₁ : x < 2 ^ 62) (hy₀ : 0 ≤ y) (hy : y < 2 ^ i) (hy₁ : y < 2 ^ 62) : bits .or .i64 y x = y + x := by
  have hc : bits .or .i64 y x = bits .or .i64 x y := by simp only [bits, BitVec.or_comm]
  rw [hc, bits_join .i64 62 (by decide) wraps_i64' i x y hx₀ hx hx₁ hy₀ hy hy₁]
  omega
theorem byte_lt (s : ByteArray) (k : Nat) (h : k < s.size) : ((s[k]'h).toNat : Int) < 256 := by
  have := (s[k]'h).toNat_lt
  omega

theorem ret_int {k : IntKind} {a b : Int} (h : a = b) : Ending.returned (.int k a) = .returned (.int k b) := by rw [h]

theorem ret_three {k : IntKind} {a b c : Int} {t : Int × Int × Int} (h : t = (a, b, c)) : Ending.returned (.tuple #[.int .i64 a, .int .i64 b, .int k c]) = .returned (.tuple #[.int .i64 t.1, .int .i64 t.2.1, .int k t.2.2]) := by rw [h]

end Go.Proofs.YtemfcaaoobjgkaaGreatDoor
