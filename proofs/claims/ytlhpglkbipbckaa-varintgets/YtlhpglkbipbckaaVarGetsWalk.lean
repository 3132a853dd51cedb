/- The law on reading numbers returns true. -/
import Derived.Test.YtlhpglkbipbckaaVarGetRef
namespace Go.Proofs.Ytlhpglkbipbckaa
open Go.RowKit

theorem get321 : VP.get ⟨#[193, 2]⟩ 0 = (321, 2, 0) := by decide

theorem getG_code (s : ByteArray) (k : Nat) : ∀ (f i : Nat) (n : Int), 0 ≤ (VP.getG s k f i n).2.2 ∧ (VP.getG s k f i n).2.2 ≤ 242
  | 0, _, _ => by rw [VP.getG_0]; exact ⟨by decide, by decide⟩
  | f + 1, i, n => by
    unfold VP.getG
    split
    · split
      · split
        · exact ⟨Int.le_refl 0, (by decide : (0 : Int) ≤ 242)⟩
        · exact ⟨by decide, by decide⟩
      · exact getG_code s k f (i + 1) _
    · exact ⟨by decide, by decide⟩
theorem get_code (s : ByteArray) (at_ : Int) : 0 ≤ (VP.get s at_).2.2 ∧ (VP.get s at_).2.2 ≤ 242 := by
  unfold VP.get
  split
  · exact ⟨by decide, by decide⟩
  · exact getG_code _ _ _ _ _

set_option maxHeartbeats 400000 in
theorem varintGets_walk (s : ByteArray) (at_ : Int) (hs : s.size ≤ maxLen) (_hw : (Lit.int .i64 at_).wf = true) (w : World) :
    Calls Try.prog 5 #[.string s, .int .i64 at_] w fun e w' => e = .returned (.bool true) ∧ Below w.heap.size w w' := by
  have h321 := Lib.hid get321
  go_enter Try.func5, Try.ntmps5
  go_wp2_with fail
  refine (get_any s at_ hs _).mono ?_
  rintro e w' ⟨rfl, rfl⟩
  go_wp2_with fail
  refine (refget_any s at_ hs _).mono ?_
  rintro e w' ⟨rfl, rfl⟩
  go_wp2_with fail
  refine (get_any ⟨#[193, 2]⟩ 0 (by decide) _).mono ?_
  rintro e w' ⟨rfl, rfl⟩
  rw [h321.out]
  obtain ⟨hc0, hc1⟩ := get_code s at_
  generalize VP.get s at_ = t at hc0 hc1
  obtain ⟨a, b, c⟩ := t
  go_wp2
  go_ret
  exact ⟨rfl, Below.refl _ _⟩

end Go.Proofs.Ytlhpglkbipbckaa
