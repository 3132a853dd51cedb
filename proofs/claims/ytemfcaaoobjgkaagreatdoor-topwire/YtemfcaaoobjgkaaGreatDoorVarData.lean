/- Data: the program's and the document's functions answer the same; the law on them returns true. -/
import Derived.Test.YtemfcaaoobjgkaaGreatDoorVarFixed
import Derived.Test.YtemfcaaoobjgkaaGreatDoorVarRefRead
import Derived.Test.YtemfcaaoobjgkaaGreatDoorVarClone
import Derived.Laws.DeepStrings4
namespace Go.Proofs.YtemfcaaoobjgkaaGreatDoor
open Go.RowKit

set_option maxHeartbeats 400000 in
theorem data_any (s : ByteArray) (hs : s.size ≤ maxLen) (w : World) :
    Calls Tryz.prog 105 #[.string s] w fun e w' => e = .returned (.tuple #[.string (if s.size ≤ 65535 then strOfNums [(s.size : Int) / 256, (s.size : Int) % 256] ++ s else ⟨#[]⟩), .int .u8 (if s.size ≤ 65535 then 0 else 149)]) ∧ Below w.heap.size w w' := by
  unfold maxLen at hs
  by_cases h : s.size ≤ 65535
  · rw [if_pos h, if_pos h]
    have hf := Lib.hid (VP.fix_2 (n := (s.size : Int)) (by omega) (by omega)).1
    have hsz := strOfNums_size
    go_enter Tryz.func105, Tryz.ntmps105
    go_wp2_with fail
    refine (fixed_any 2 _ (by omega) (by omega) _).mono ?_
    rintro e w1 ⟨rfl, b1⟩
    rw [hf.out]
    go_wp2
    go_ret2
    exact ⟨rfl, b1⟩
  · rw [if_neg h, if_neg h]
    go_enter Tryz.func105, Tryz.ntmps105
    go_wp2
    go_ret2
    exact ⟨rfl, Below.refl _ _⟩

theorem slice_at (s : ByteArray) (k L : Nat) (h : k + 2 + L ≤ s.size) (w : World) :
    (Instr.slice 9 (.string s) (some (.int .i64 ((k : Int) + 2))) (some (.int .i64 ((k : Int) + 2 + (L : Int)))) none).run Tryz.prog w = .ok (.string (s.extract (k + 2) (k + 2 + L))) w := by
  rw [run_slice_string_if w 9 s .i64 .i64 _ _ Tryz.underlying9, if_pos (by omega), if_pos (by omega)]
  have e1 : ((k : Int) + 2).toNat = k + 2 := by omega
  have e2 : ((k : Int) + 2 + L).toNat = k + 2 + L := by omega
  rw [e1, e2]

set_option maxHeartbeats 400000 in
theorem getdata_any (s : ByteArray) (at_ : Int) (hs : s.size ≤ maxLen) (w : World) :
    Calls Tryz.prog 132 #[.string s, .int .i64 at_] w fun e w' => e = .returned (.tuple #[.string (VP.dat s at_).1, .int .i64 (VP.dat s at_).2.1, .int .u8 (VP.dat s at_).2.2]) ∧ Below w.heap.size w w' := by
  have hs' := hs
  unfold maxLen at hs'
  by_cases hc : (VP.rd s at_ 2).2.2 = 0
  · obtain ⟨k, L, rfl, hk, hL, hrd⟩ := VP.rd2_ok s at_ hc
    clear hc
    by_cases hl : (s.size : Int) - (k + 2) < L
    · rw [VP.dat_few s k L hrd hl]
      have HR := Lib.hid hrd
      clear hrd
      go_enter Tryz.func132, Tryz.ntmps132
      go_wp2_with fail
      refine (read_any s k 2 hs _).mono ?_
      rintro e w' ⟨rfl, rfl⟩
      rw [HR.out]
      go_wp2
      go_ret3
      exact ⟨rfl, Below.refl _ _⟩
    · rw [VP.dat_ok s k L hrd hl]
      have HR := Lib.hid hrd
      have hsl := slice_at s k L (by omega)
      clear hrd
      go_enter Tryz.func132, Tryz.ntmps132
      go_wp2_with fail
      refine (read_any s k 2 hs _).mono ?_
      rintro e w' ⟨rfl, rfl⟩
      rw [HR.out]
      go_wp2_with fail
      refine (clone_any (s.extract (k + 2) (k + 2 + L)) _ (by simp; omega)).mono ?_
      rintro e w1 ⟨rfl, b1⟩
      go_wp2
      go_ret3
      exact ⟨rfl, b1⟩
  · rw [VP.dat_bad s at_ hc]
    obtain ⟨c, hcd⟩ : ∃ c, c = (VP.rd s at_ 2).2.2 := ⟨_, rfl⟩
    have hne : (c != 0) = true := by rw [hcd, bne_iff_ne]; exact hc
    obtain ⟨a, b, hab⟩ : ∃ a b, VP.rd s at_ 2 = (a, b, c) := ⟨_, _, by rw [hcd]⟩
    rw [← hcd]
    have HR := Lib.hid hab
    clear hcd hab hc
    go_enter Tryz.func132, Tryz.ntmps132
    go_wp2_with fail
    refine (read_any s at_ 2 hs _).mono ?_
    rintro e w' ⟨rfl, rfl⟩
    rw [HR.out]
    go_wp2
    go_ret3
    exact ⟨rfl, Below.refl _ _⟩

set_option maxHeartbeats 400000 in
theorem refgetdata_any (s : ByteArray) (at_ : Int) (hs : s.size ≤ maxLen) (w : World) :
    Calls Tryz.prog 118 #[.string s, .int .i64 at_] w fun e w' => e = .returned (.tuple #[.string (VP.dat s at_).1, .int .i64 (VP.dat s at_).2.1, .int .i64 (VP.dat s at_).2.2]) ∧ Below w.heap.size w w' := by
  have hs' := hs
  unfold maxLen at hs'
  by_cases hc : (VP.rd s at_ 2).2.2 = 0
  · obtain ⟨k, L, rfl, hk, hL, hrd⟩ := VP.rd2_ok s at_ hc
    clear hc
    by_cases hl : (s.size : Int) - (k + 2) < L
    · rw [VP.dat_few s k L hrd hl]
      have HR := Lib.hid hrd
      clear hrd
      go_enter Tryz.func118, Tryz.ntmps118
      go_wp2_with fail
      refine (refread_any s k 2 hs _).mono ?_
      rintro e w' ⟨rfl, rfl⟩
      rw [HR.out]
      go_wp2
      go_ret3
      exact ⟨rfl, Below.refl _ _⟩
    · rw [VP.dat_ok s k L hrd hl]
      have HR := Lib.hid hrd
      have hsl := slice_at s k L (by omega)
      clear hrd
      go_enter Tryz.func118, Tryz.ntmps118
      go_wp2_with fail
      refine (refread_any s k 2 hs _).mono ?_
      rintro e w' ⟨rfl, rfl⟩
      rw [HR.out]
      go_wp2
      go_ret3
      exact ⟨rfl, Below.refl _ _⟩
  · rw [VP.dat_bad s at_ hc]
    obtain ⟨c, hcd⟩ : ∃ c, c = (VP.rd s at_ 2).2.2 := ⟨_, rfl⟩
    have hne : (c != 0) = true := by rw [hcd, bne_iff_ne]; exact hc
    obtain ⟨a, b, hab⟩ : ∃ a b, VP.rd s at_ 2 = (a, b, c) := ⟨_, _, by rw [hcd]⟩
    rw [← hcd]
    have HR := Lib.hid hab
    clear hcd hab hc
    go_enter Tryz.func118, Tryz.ntmps118
    go_wp2_with fail
    refine (refread_any s at_ 2 hs _).mono ?_
    rintro e w' ⟨rfl, rfl⟩
    rw [HR.out]
    go_wp2
    go_ret3
    exact ⟨rfl, Below.refl _ _⟩

end Go.Proofs.YtemfcaaoobjgkaaGreatDoor
