/- Small facts on codes, capacities and drawn worlds. -/
import Derived.Test.YtemfcaaoobjgkaaGreatDoorPrPut
import Derived.OpenShut
namespace Go.Proofs.YtemfcaaoobjgkaaGreatDoor
open Go.RowKit Go.WideShapes Go.ChangeShapes

theorem wf_i64 {z : Int} (h : (Lit.int .i64 z).wf = true) : -9223372036854775808 ≤ z ∧ z ≤ 9223372036854775807 := bounds_i64 h
theorem putC_le (l : List Pr) : 0 ≤ PR.putC l ∧ PR.putC l ≤ 255 := by
  have hr : ∀ (r : List Pr) (k : Nat), 0 ≤ PR.restC l k r ∧ PR.restC l k r ≤ 149 := fun r => by
    induction r with
    | nil => intro k; exact ⟨Int.le_refl 0, (by decide : (0 : Int) ≤ 149)⟩
    | cons p r ih =>
      intro k
      unfold PR.restC
      split
      · exact PR.oneC_le _ _
      · exact ih _
  have := hr l 0
  unfold PR.putC
  split
  · omega
  · split <;> omega
theorem own_capmax {w : World} {N : Nat} {t : TypeId} {s : Nat} {A : Option Addr} {n cap : Nat} {l : List Value} (h : w.ownsRow N t s (.slice A n cap) n l) : cap ≤ 9223372036854775807 := by
  rcases h.2 with ⟨hx, hy⟩ | ⟨g, c, cur, hx, _, _, h3, h4, _⟩
  · injection hx with _ _ hx; omega
  · injection hx with _ _ hx; subst hx; unfold maxLen at h4; omega

theorem drewN_below (B : Nat) (w : World) (n : Nat) : Below B w (w.drewN n) := ⟨rfl, rfl, rfl, Nat.le_refl _, fun _ _ => rfl⟩
end Go.Proofs.YtemfcaaoobjgkaaGreatDoor
