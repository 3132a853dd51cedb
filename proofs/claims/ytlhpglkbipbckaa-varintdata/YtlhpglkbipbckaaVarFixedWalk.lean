/- The law on fixed numbers' bytes returns true. -/
import Derived.Test.YtlhpglkbipbckaaVarFixed
namespace Go.Proofs.Ytlhpglkbipbckaa
open Go.RowKit

theorem fix258 : strOfNums (VP.fixL 2 258) = ⟨#[1, 2]⟩ := by decide

theorem i64_of_wf {n : Int} (h : (Lit.int .i64 n).wf = true) : -9223372036854775808 ≤ n ∧ n ≤ 9223372036854775807 := by
  simp [Lit.wf, IntKind.min, IntKind.max, IntKind.signed, IntKind.bits] at h
  omega

set_option maxHeartbeats 400000 in
theorem varintFixed_walk (wd n : Int) (_hw : (Lit.int .i64 wd).wf = true) (hn : (Lit.int .i64 n).wf = true) (w : World) :
    Calls Try.prog 6 #[.int .i64 wd, .int .i64 n] w fun e w' => e = .returned (.bool true) ∧ Below w.heap.size w w' := by
  obtain ⟨hr, hr'⟩ := i64_of_wf hn
  have h258 := Lib.hid fix258
  go_enter Try.func6, Try.ntmps6
  go_wp2_with fail
  refine (fixed_any wd n hr hr' _).mono ?_
  rintro e w1 ⟨rfl, b1⟩
  go_wp2_with fail
  refine (reffixed_any wd n hr hr' _).mono ?_
  rintro e w2 ⟨rfl, b2⟩
  go_wp2_with fail
  refine (fixed_any 2 258 (by omega) (by omega) _).mono ?_
  rintro e w3 ⟨rfl, b3⟩
  rw [h258.out]
  have B := (b1.trans (b2.mono b1.size)).trans (b3.mono (b1.trans (b2.mono b1.size)).size)
  clear b1 b2 b3
  obtain ⟨hc0, hc1⟩ := VP.fixC_le wd n
  generalize strOfNums (VP.fixL wd n) = s
  revert hc0 hc1
  generalize VP.fixC wd n = c
  intro hc0 hc1
  go_wp2
  go_ret
  exact ⟨rfl, B⟩

end Go.Proofs.Ytlhpglkbipbckaa
