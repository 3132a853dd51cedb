/- What the law's own helper answers: an error and its record. -/
import Derived.Test.YteacjahncngoiaaDoorFaJoined
import Derived.Test.YteacjahncngoiaaDoorFaWakes
import Derived.Test.YteacjahncngoiaaDoorFaRef2
import Derived.Deep.RegionHeld3
namespace Go.Proofs.YteacjahncngoiaaDoor
open Go.RowKit FA

theorem below_of_drew {B : Nat} {a b : World} (h : Below B a.drew b) : Below B a b := ⟨h.os, h.tape, h.output, h.size, h.block⟩

mutual
theorem ff_lt : ∀ (e f : E), FA.Good e → ff e = some f → cd f < 256
  | .leaf c s, f, h, hf => by rw [ff] at hf; obtain rfl := Option.some.inj hf; exact h.1
  | .wrap c s k, f, h, hf => by rw [ff] at hf; obtain rfl := Option.some.inj hf; exact h.1
  | .many l, f, h, hf => by rw [ff] at hf; exact ffL_lt l f h hf
  | .other s, f, h, hf => by rw [ff] at hf; cases hf
theorem ffL_lt : ∀ (l : List E) (f : E), FA.GoodL l → ffL l = some f → cd f < 256
  | [], f, h, hf => by rw [ffL] at hf; cases hf
  | e :: l, f, h, hf => by
    rw [ffL] at hf
    cases he : ff e with
    | some g => rw [he] at hf; obtain rfl := Option.some.inj hf; exact ff_lt e g h.1 he
    | none => rw [he] at hf; exact ffL_lt l f h.2 hf
end
theorem code_lt (e : E) (h : FA.Good e) : code e < 256 := by
  unfold code
  cases he : ff e with
  | some f => exact ff_lt e f h he
  | none => simp

/-- What made answers: an error and its record. -/
def MadeP (w : World) (en : Ending) (w' : World) : Prop :=
  ∃ x v y, en = .returned (.tuple #[v, recO x y]) ∧ RepO w' w'.heap.size x v ∧ RepRO w' w'.heap.size x y ∧ GoodO x ∧ szO x ≤ 1000 ∧ Below w.heap.size w w'
end Go.Proofs.YteacjahncngoiaaDoor
