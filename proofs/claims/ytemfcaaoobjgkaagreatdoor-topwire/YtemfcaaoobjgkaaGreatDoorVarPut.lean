/- The two functions that tell a number's bytes answer the same bytes and code. -/
import Derived.Test.YtemfcaaoobjgkaaGreatDoorVarSize
import Derived.Test.YtemfcaaoobjgkaaGreatDoorVarBytes
namespace Go.Proofs.YtemfcaaoobjgkaaGreatDoor
open Go.RowKit

set_option maxHeartbeats 400000 in
theorem put_any (n : Int) (w : World) :
    Calls Tryz.prog 29 #[.int .i64 n] w fun e w' => e = .returned (.tuple #[.string (strOfNums (VP.putL n)), .int .u8 (VP.putC n)]) ∧ Below w.heap.size w w' := by
  rcases (show n < 0 ∨ (0 ≤ n ∧ n < 128) ∨ (128 ≤ n ∧ n < 16384) ∨ (16384 ≤ n ∧ n < 2097152) ∨ (2097152 ≤ n ∧ n ≤ 268435455) ∨ 268435455 < n from by omega) with h | ⟨h, h'⟩ | ⟨h, h'⟩ | ⟨h, h'⟩ | ⟨h, h'⟩ | h
  · have hs := Lib.hid (VP.sz_out (.inl h))
    rw [VP.putL_out (.inl h), VP.putC_out (.inl h)]
    go_enter Tryz.func29, Tryz.ntmps29
    go_wp2_with fail
    refine (size_any n _).mono ?_
    rintro e w' ⟨rfl, rfl⟩
    rw [hs.out]
    go_wp2
    go_ret2
    exact ⟨rfl, Below.refl _ _⟩
  · have hs := Lib.hid (VP.sz_1 h h')
    have hl := Lib.hid (VP.putL_1 h h')
    have hc := Lib.hid (VP.putC_in h (by omega))
    have hmk := make1
    have hcv := conv1
    go_enter Tryz.func29, Tryz.ntmps29
    go_wp2_with fail
    refine (size_any n _).mono ?_
    rintro e w' ⟨rfl, rfl⟩
    rw [hs.out]
    go_wp2
    refine wp_loop_rounds 2 ?_
    iterate 2 (rw [rounds_succ]; go_wp2)
    go_ret2
    refine ⟨ret_bytes ?_ hc.out.symm, (Below.refl _ _).alloc (Nat.le_refl _) _⟩
    rw [hl.out, u8_or128 _ (by omega) (by omega), u8_and127 _ (by omega) (by omega)]
    simp only [List.cons.injEq, and_true]
    omega
  · have hs := Lib.hid (VP.sz_2 h h')
    have hl := Lib.hid (VP.putL_2 h h')
    have hc := Lib.hid (VP.putC_in (n := n) (by omega) (by omega))
    have hmk := make2
    have hcv := conv2
    go_enter Tryz.func29, Tryz.ntmps29
    go_wp2_with fail
    refine (size_any n _).mono ?_
    rintro e w' ⟨rfl, rfl⟩
    rw [hs.out]
    go_wp2
    refine wp_loop_rounds 3 ?_
    iterate 3 (rw [rounds_succ]; go_wp2)
    go_ret2
    refine ⟨ret_bytes ?_ hc.out.symm, (Below.refl _ _).alloc (Nat.le_refl _) _⟩
    rw [hl.out, u8_or128 (n % 256) (by omega) (by omega), u8_or128 (n / 128) (by omega) (by omega), u8_and127 _ (by omega) (by omega)]
    simp only [List.cons.injEq, and_true]
    omega
  · have hs := Lib.hid (VP.sz_3 h h')
    have hl := Lib.hid (VP.putL_3 h h')
    have hc := Lib.hid (VP.putC_in (n := n) (by omega) (by omega))
    have hmk := make3
    have hcv := conv3
    go_enter Tryz.func29, Tryz.ntmps29
    go_wp2_with fail
    refine (size_any n _).mono ?_
    rintro e w' ⟨rfl, rfl⟩
    rw [hs.out]
    go_wp2
    refine wp_loop_rounds 4 ?_
    iterate 4 (rw [rounds_succ]; go_wp2)
    go_ret2
    refine ⟨ret_bytes ?_ hc.out.symm, (Below.refl _ _).alloc (Nat.le_refl _) _⟩
    rw [hl.out, u8_or128 (n % 256) (by omega) (by omega), u8_or128 (n / 128 % 256) (by omega) (by omega), u8_or128 (n / 16384) (by omega) (by omega), u8_and127 _ (by omega) (by omega)]
    simp only [List.cons.injEq, and_true]
    omega
  · have hs := Lib.hid (VP.sz_4 h h')
    have hl := Lib.hid (VP.putL_4 h h')
    have hc := Lib.hid (VP.putC_in (n := n) (by omega) (by omega))
    have hmk := make4
    have hcv := conv4
    go_enter Tryz.func29, Tryz.ntmps29
    go_wp2_with fail
    refine (size_any n _).mono ?_
    rintro e w' ⟨rfl, rfl⟩
    rw [hs.out]
    go_wp2
    refine wp_loop_rounds 5 ?_
    iterate 5 (rw [rounds_succ]; go_wp2)
    go_ret2
    refine ⟨ret_bytes ?_ hc.out.symm, (Below.refl _ _).alloc (Nat.le_refl _) _⟩
    rw [hl.out, u8_or128 (n % 256) (by omega) (by omega), u8_or128 (n / 128 % 256) (by omega) (by omega), u8_or128 (n / 16384 % 256) (by omega) (by omega), u8_or128 (n / 2097152) (by omega) (by omega), u8_and127 _ (by omega) (by omega)]
    simp only [List.cons.injEq, and_true]
    omega
  · have hs := Lib.hid (VP.sz_out (.inr h))
    rw [VP.putL_out (.inr h), VP.putC_out (.inr h)]
    go_enter Tryz.func29, Tryz.ntmps29
    go_wp2_with fail
    refine (size_any n _).mono ?_
    rintro e w' ⟨rfl, rfl⟩
    rw [hs.out]
    go_wp2
    go_ret2
    exact ⟨rfl, Below.refl _ _⟩

end Go.Proofs.YtemfcaaoobjgkaaGreatDoor
