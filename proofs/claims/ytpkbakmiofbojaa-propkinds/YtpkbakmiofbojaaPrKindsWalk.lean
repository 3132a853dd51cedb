/- PropKinds: what every identifier's values are is the document's kind. -/
import Derived.Test.YtpkbakmiofbojaaPrKindRef
namespace Go.Proofs.Ytpkbakmiofbojaa
open Go.RowKit

theorem kd_38 : PR.kd 38 = 7 := by decide

set_option maxRecDepth 100000 in
set_option maxHeartbeats 1000000 in
theorem propKinds_walk (id : Int) (_hw : (Lit.int .i64 id).wf = true) (w : World) :
    Calls Try.prog 3 #[.int .i64 id] w fun e w' => e = .returned (.bool true) ∧ Below w.heap.size w w' := by
  have C0 := Lib.hid (kind_any 38); have C1 := Lib.hid kind_any; have C2 := Lib.hid rkind_any
  rw [kd_38] at C0
  go_enter Try.func3, Try.ntmps3
  go_wp2_with fail
  refine (C0.out _).mono ?_
  rintro e w1 ⟨rfl, rfl⟩
  go_wp2_with fail
  refine (C1.out _ _).mono ?_
  rintro e w1 ⟨rfl, rfl⟩
  go_wp2_with fail
  refine (C2.out _ _).mono ?_
  rintro e w1 ⟨rfl, b1⟩
  have B1 := Lib.hid b1
  clear b1
  go_wp2_with fail
  refine (C1.out _ _).mono ?_
  rintro e w2 ⟨rfl, rfl⟩
  go_wp2_with fail
  refine (C2.out _ _).mono ?_
  rintro e w2 ⟨rfl, b2⟩
  have B2 := Lib.hid b2
  clear b2
  go_wp2
  go_ret
  exact ⟨rfl, B1.out.trans (B2.out.mono B1.out.size)⟩
end Go.Proofs.Ytpkbakmiofbojaa
