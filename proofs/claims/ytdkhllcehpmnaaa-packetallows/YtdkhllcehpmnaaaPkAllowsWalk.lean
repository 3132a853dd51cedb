/- PacketAllows: which properties packets of which kind may have is the document's answer. -/
import Derived.Test.YtdkhllcehpmnaaaPkAllow
namespace Go.Proofs.Ytdkhllcehpmnaaa
open Go.RowKit

set_option maxHeartbeats 4000000 in
theorem packetAllows_walk (k id : Int) (_hk : (Lit.int .i64 k).wf = true) (_hi : (Lit.int .i64 id).wf = true) (w : World) :
    Calls Try.prog 3 #[.int .i64 k, .int .i64 id] w fun e w' => e = .returned (.bool true) ∧ Below w.heap.size w w' := by
  have C1 := Lib.hid allowed_any
  have C2 := Lib.hid rallowed_any
  have C3 : Hid (∀ w, Calls Try.prog 4 #[.int .i64 10, .int .i64 38] w fun e w' => e = .returned (.bool true) ∧ Below w.heap.size w w') := fun w => allowed_any 10 38 w
  go_enter Try.func3, Try.ntmps3
  go_wp2
  go_loopw [6] (fun i wr => ∃ n : Nat, i = .int .i64 n ∧ n ≤ 64 ∧ Hid (Below w.heap.size w wr)) (fun i _ => 64 - (intOf i).toNat)
  case atStart => exact ⟨0, rfl, by omega, Lib.hid (Below.refl _ _)⟩
  case round =>
    obtain ⟨n, rfl, hn, hbr⟩ := hrel
    by_cases hlt : n < 64
    · go_wp2_with fail
      refine (C1.out _ _ _).mono ?_
      rintro e w1 ⟨rfl, b1⟩
      have B1 : Hid (Below w.heap.size w w1) := hbr.out.trans (b1.mono hbr.out.size)
      clear b1
      go_wp2_with fail
      refine (C2.out _ _ _).mono ?_
      rintro e w2 ⟨rfl, b2⟩
      have B2 : Hid (Below w.heap.size w w2) := B1.out.trans (b2.mono B1.out.size)
      clear b2
      go_wp2
      go_roundw
      case rel => exact ⟨n + 1, by go_num, by omega, B2⟩
      case measure => simp [intOf]; omega
    · obtain rfl : n = 64 := by omega
      go_wp2_with fail
      refine (C3.out _).mono ?_
      rintro e w1 ⟨rfl, b1⟩
      have B1 : Hid (Below w.heap.size w w1) := hbr.out.trans (b1.mono hbr.out.size)
      clear b1
      go_wp2_with fail
      refine (C1.out _ _ _).mono ?_
      rintro e w2 ⟨rfl, b2⟩
      have B2 : Hid (Below w.heap.size w w2) := B1.out.trans (b2.mono B1.out.size)
      clear b2
      go_wp2_with fail
      refine (C2.out _ _ _).mono ?_
      rintro e w3 ⟨rfl, b3⟩
      have B3 : Hid (Below w.heap.size w w3) := B2.out.trans (b3.mono B2.out.size)
      clear b3
      go_wp2
      go_ret
      exact ⟨by simp, B3.out⟩
end Go.Proofs.Ytdkhllcehpmnaaa
