/- The program's functions on texts: where the characters end and how many there are, Fault, Runes, Cut. -/
import Derived.Test.YtemfcaaoobjgkaaGreatDoorTxDec
import Derived.Test.YtemfcaaoobjgkaaGreatDoorVarClone
import Derived.Laws.Strings3
namespace Go.Proofs.YtemfcaaoobjgkaaGreatDoor
open Go.RowKit

theorem slice_from (s : ByteArray) (k : Nat) (h : k ≤ s.size) (w : World) :
    (Instr.slice 9 (.string s) (some (.int .i64 (k : Int))) none none).run Tryz.prog w = .ok (.string (s.extract k s.size)) w := by
  rw [run_slice_string_from_if w 9 s .i64 _ Tryz.underlying9, if_pos (by omega)]
  rfl

theorem slice_upto (s : ByteArray) (k : Nat) (h : k ≤ s.size) (w : World) :
    (Instr.slice 9 (.string s) none (some (.int .i64 (k : Int))) none).run Tryz.prog w = .ok (.string (s.extract 0 k)) w := by
  rw [run_slice_string_to_if w 9 s .i64 _ Tryz.underlying9, if_pos (by omega)]
  rfl

set_option maxHeartbeats 400000 in
theorem begin_any (s : ByteArray) (hs : s.size ≤ maxLen) (w : World) (hT : Tabs w) :
    Calls Tryz.prog 130 #[.string s] w fun e w' => e = .returned (.tuple #[.int .i64 (TX.fin s 0), .int .i64 (TX.cnt s 0)]) ∧ Below w.heap.size w w' := by
  unfold maxLen at hs
  go_enter Tryz.func130, Tryz.ntmps130
  go_wp2
  go_loopw [4, 5] (fun e c wr => ∃ k n : Nat, k ≤ s.size ∧ n ≤ k ∧ e = .int .i64 k ∧ c = .int .i64 n ∧ Hid (TX.fin s k = TX.fin s 0) ∧ Hid (n + TX.cnt s k = TX.cnt s 0) ∧ Below w.heap.size w wr)
    (fun e _ _ => s.size - (intOf e).toNat)
  case atStart => exact ⟨0, 0, by omega, by omega, rfl, rfl, Lib.hid rfl, Lib.hid (Nat.zero_add _), Below.refl _ _⟩
  case round =>
    obtain ⟨k, n, hk, hn, rfl, rfl, hf, hc, hb⟩ := hrel
    have hsl := slice_from s k hk
    have hT' := hT.below hb
    have hd := TX.chr_drop s k hk
    by_cases h : TX.chr s k = 0
    · have H1 := Lib.hid (TX.fin_no h)
      have H2 := Lib.hid (TX.cnt_no h)
      have C := first_no (s.extract k s.size) (hd.trans h) wr hT'
      clear h hd
      go_wp2_with fail
      refine C.mono ?_
      rintro e w1 ⟨rfl, b1⟩
      go_wp2
      go_ret2
      refine ⟨?_, hb.trans (b1.mono hb.size)⟩
      rw [← hf.out, H1.out, ← hc.out, H2.out]
      rfl
    · have H1 := Lib.hid (TX.fin_yes h)
      have H2 := Lib.hid (TX.cnt_yes h)
      have h4 := TX.chr_four s k
      have hl := TX.chr_le s k hk
      have hp : 0 < TX.chr s k := by omega
      have C := first_yes (s.extract k s.size) (by rw [hd]; exact h) wr hT'
      rw [hd] at C
      clear h hd
      generalize (Lib.decodeGo (s.extract k s.size)).1 = r at C
      generalize TX.chr s k = z at *
      have e1 : ((r : Int) == -1) = false := by rw [beq_eq_false_iff_ne]; omega
      go_wp2_with fail
      refine C.mono ?_
      rintro e w1 ⟨rfl, b1⟩
      go_wp2
      go_roundw
      case rel => exact ⟨k + z, n + 1, by omega, by omega, by go_num, by go_num, Lib.hid (H1.out.symm.trans hf.out), Lib.hid (by rw [← hc.out, H2.out]; omega), hb.trans (b1.mono hb.size)⟩
      case measure => simp [intOf]; omega

end Go.Proofs.YtemfcaaoobjgkaaGreatDoor
