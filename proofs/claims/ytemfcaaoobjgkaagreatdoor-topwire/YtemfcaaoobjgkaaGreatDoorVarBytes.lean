/- New slices of one to four bytes: made, and turned into strings; bits of bytes. -/
import Derived.Test.YtemfcaaoobjgkaaGreatDoorProg
import Derived.WalkKit
import Derived.Below
import Derived.Laws.BytesArg
import Derived.Laws.BitsAllLaws
import Derived.Laws.Bits128
import Derived.WalkLawsBesides
import Derived.Lib.Hide
namespace Go.Proofs.YtemfcaaoobjgkaaGreatDoor
open Go.RowKit

theorem make1 (w : World) : (Instr.makeSlice 64 (.int .i64 1) (.int .i64 1)).run Tryz.prog w = .ok (.slice (some ⟨w.heap.size, 0, none⟩) 1 1) (w.alloc (.cells #[.int .u8 0] 5)) := by kernel_rfl
theorem make2 (w : World) : (Instr.makeSlice 64 (.int .i64 2) (.int .i64 2)).run Tryz.prog w = .ok (.slice (some ⟨w.heap.size, 0, none⟩) 2 2) (w.alloc (.cells #[.int .u8 0, .int .u8 0] 5)) := by kernel_rfl
theorem make3 (w : World) : (Instr.makeSlice 64 (.int .i64 3) (.int .i64 3)).run Tryz.prog w = .ok (.slice (some ⟨w.heap.size, 0, none⟩) 3 3) (w.alloc (.cells #[.int .u8 0, .int .u8 0, .int .u8 0] 5)) := by kernel_rfl
theorem make4 (w : World) : (Instr.makeSlice 64 (.int .i64 4) (.int .i64 4)).run Tryz.prog w = .ok (.slice (some ⟨w.heap.size, 0, none⟩) 4 4) (w.alloc (.cells #[.int .u8 0, .int .u8 0, .int .u8 0, .int .u8 0] 5)) := by kernel_rfl

theorem conv_top (w : World) (xs : List Int) :
    (convert 64 9 (.slice (some ⟨w.heap.size, 0, none⟩) xs.length xs.length)).run Tryz.prog (w.alloc (.cells (xs.map (Value.int .u8)).toArray 5)) = .ok (.string (strOfNums xs)) (w.alloc (.cells (xs.map (Value.int .u8)).toArray 5)) := by
  refine run_convert_bytes_arg _ 64 5 Tryz.underlying64 Tryz.underlying5 w.heap.size 0 xs.length xs.length xs rfl (fun i hi => ?_) 9 Tryz.underlying9
  rw [World.cell?_alloc_at _ _ _ _ rfl]
  simp [List.getD, List.getElem?_eq_getElem hi]

theorem conv1 (w : World) (a : Int) : (convert 64 9 (.slice (some ⟨w.heap.size, 0, none⟩) 1 1)).run Tryz.prog (w.alloc (.cells #[.int .u8 a] 5)) = .ok (.string (strOfNums [a])) (w.alloc (.cells #[.int .u8 a] 5)) := conv_top w [a]
theorem conv1_at (w : World) (b : Nat) (a : Int) (hb : b = w.heap.size) : (convert 64 9 (.slice (some ⟨b, 0, none⟩) 1 1)).run Tryz.prog (w.alloc (.cells #[.int .u8 a] 5)) = .ok (.string (strOfNums [a])) (w.alloc (.cells #[.int .u8 a] 5)) := by
  subst hb; exact conv1 w a
theorem conv2 (w : World) (a b : Int) : (convert 64 9 (.slice (some ⟨w.heap.size, 0, none⟩) 2 2)).run Tryz.prog (w.alloc (.cells #[.int .u8 a, .int .u8 b] 5)) = .ok (.string (strOfNums [a, b])) (w.alloc (.cells #[.int .u8 a, .int .u8 b] 5)) := conv_top w [a, b]
theorem conv3 (w : World) (a b c : Int) : (convert 64 9 (.slice (some ⟨w.heap.size, 0, none⟩) 3 3)).run Tryz.prog (w.alloc (.cells #[.int .u8 a, .int .u8 b, .int .u8 c] 5)) = .ok (.string (strOfNums [a, b, c])) (w.alloc (.cells #[.int .u8 a, .int .u8 b, .int .u8 c] 5)) := conv_top w [a, b, c]
theorem conv4 (w : World) (a b c d : Int) : (convert 64 9 (.slice (some ⟨w.heap.size, 0, none⟩) 4 4)).run Tryz.prog (w.alloc (.cells #[.int .u8 a, .int .u8 b, .int .u8 c, .int .u8 d] 5)) = .ok (.string (strOfNums [a, b, c, d])) (w.alloc (.cells #[.int .u8 a, .int .u8 b, .int .u8 c, .int .u8 d] 5)) := conv_top w [a, b, c, d]

theorem str_app (xs ys : List Int) : strOfNums xs ++ strOfNums ys = strOfNums (xs ++ ys) := by
  apply ByteArray.ext
  simp [strOfNums, ByteArray.data_append]
theorem str_nil : (⟨#[]⟩ : ByteArray) = strOfNums [] := rfl

theorem or128_fin : ∀ a : Fin 256, (a.val ||| 128) = a.val % 128 + 128 := by decide +kernel
theorem and127_fin : ∀ a : Fin 256, (a.val &&& 127) = a.val % 128 := by decide +kernel
theorem u8_or128 (x : Int) (h0 : 0 ≤ x) (h1 : x < 256) : bits .or .u8 x 128 = x % 128 + 128 := by
  rw [u8_or x 128 h0 h1 (by decide) (by decide)]
  have := or128_fin ⟨x.toNat, by omega⟩
  simp only [show (128 : Int).toNat = 128 from rfl] at this ⊢
  omega
theorem u8_and127 (x : Int) (h0 : 0 ≤ x) (h1 : x < 256) : bits .and .u8 x 127 = x % 128 := by
  rw [u8_and x 127 h0 h1 (by decide) (by decide)]
  have := and127_fin ⟨x.toNat, by omega⟩
  simp only [show (127 : Int).toNat = 127 from rfl] at this ⊢
  omega

theorem i64_and128_fin : ∀ a : Fin 256, bits .and .i64 (a.val : Int) 128 = if a.val < 128 then 0 else 128 := by decide +kernel
theorem i64_and128 (x : Int) (h0 : 0 ≤ x) (h1 : x < 256) : bits .and .i64 x 128 = if x < 128 then 0 else 128 := by
  have := i64_and128_fin ⟨x.toNat, by omega⟩
  simp only [Int.toNat_of_nonneg h0] at this
  rw [this]
  by_cases h : x < 128
  · rw [if_pos (by omega), if_pos h]
  · rw [if_neg (by omega), if_neg h]
theorem wraps_i64' (n : Int) (h0 : 0 ≤ n) (h1 : n < 2 ^ 62) : IntKind.i64.wrap n = n := by
  rw [IntKind.wrap_i64]; omega
theorem i64_or (i : Nat) (x y : Int) (hx₀ : 0 ≤ x) (hx : x % 2 ^ i = 0) (hx₁ : x < 2 ^ 62) (hy₀ : 0 ≤ y) (hy : y < 2 ^ i) (hy₁ : y < 2 ^ 62) : bits .or .i64 y x = y + x := by
  have hc : bits .or .i64 y x = bits .or .i64 x y := by simp only [bits, BitVec.or_comm]
  rw [hc, bits_join .i64 62 (by decide) wraps_i64' i x y hx₀ hx hx₁ hy₀ hy hy₁]
  omega
theorem byte_lt (s : ByteArray) (k : Nat) (h : k < s.size) : ((s[k]'h).toNat : Int) < 256 := by
  have := (s[k]'h).toNat_lt
  omega

theorem ret_int {k : IntKind} {a b : Int} (h : a = b) : Ending.returned (.int k a) = .returned (.int k b) := by rw [h]

theorem ret_bytes {k : IntKind} {xs ys : List Int} {a b : Int} (h : xs = ys) (g : a = b) : Ending.returned (.tuple #[.string (strOfNums xs), .int k a]) = .returned (.tuple #[.string (strOfNums ys), .int k b]) := by rw [h, g]

theorem ret_str {k : IntKind} {x : ByteArray} {ys : List Int} {a b : Int} (h : x = strOfNums ys) (g : a = b) : Ending.returned (.tuple #[.string x, .int k a]) = .returned (.tuple #[.string (strOfNums ys), .int k b]) := by rw [h, g]

theorem ret_three {k : IntKind} {a b c : Int} {t : Int × Int × Int} (h : t = (a, b, c)) : Ending.returned (.tuple #[.int .i64 a, .int .i64 b, .int k c]) = .returned (.tuple #[.int .i64 t.1, .int .i64 t.2.1, .int k t.2.2]) := by rw [h]

end Go.Proofs.YtemfcaaoobjgkaaGreatDoor
