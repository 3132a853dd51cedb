/- The kinds of identifiers: the program's and the document's. -/
import Derived.Test.YtcobklfimlblgaaDoorProg
import Derived.Test.YtcobklfimlblgaaDoorPrPure
import Derived.Below
import Derived.WalkKit
namespace Go.Proofs.YtcobklfimlblgaaDoor
open Go.RowKit

/-- A row of numbers. -/
def Nums (w : World) (g : Nat) (l : List Int) : Prop := ∀ (i : Nat) x, l[i]? = some x → w.cell? ⟨g, i, none⟩ = some (.int .i64 x)
theorem nums_new (w : World) (l : List Int) (t : TypeId) : Nums (w.alloc (.cells (l.map (Value.int .i64)).toArray t)) w.heap.size l := by
  intro i x hx
  rw [World.cell?_alloc_at _ _ _ _ rfl]
  simp [hx]

end Go.Proofs.YtcobklfimlblgaaDoor
