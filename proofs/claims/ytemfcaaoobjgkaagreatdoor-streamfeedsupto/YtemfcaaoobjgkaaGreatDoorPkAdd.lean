/- The writer's small methods: add, refuse, number, text, data, reason, id. -/
import Derived.Test.YtemfcaaoobjgkaaGreatDoorPkWr
import Derived.Test.YtemfcaaoobjgkaaGreatDoorPkPut
import Derived.Test.YtemfcaaoobjgkaaGreatDoorVarFixed
import Derived.Test.YtemfcaaoobjgkaaGreatDoorTxPut
import Derived.Test.YtemfcaaoobjgkaaGreatDoorVarData
import Derived.Test.YtemfcaaoobjgkaaGreatDoorPrPutAll
namespace Go.Proofs.YtemfcaaoobjgkaaGreatDoor
open Go.RowKit

/-- The writer stands at the bytes and the code o, in at most N times 8388996 bytes; beside a code the bytes are any. -/
def WO (b N : Nat) (o : ByteArray × Int) (w : World) : Prop := ∃ l, Wr b l o.2 w ∧ l.length ≤ N * 8388996 ∧ (o.2 = 0 → (⟨l.toArray⟩ : ByteArray) = o.1) ∧ 0 ≤ o.2 ∧ o.2 ≤ 255
/-- What a method of the writer answers: nothing, but the writer stands at o. -/
def WP (b N : Nat) (o : ByteArray × Int) (w : World) (e : Ending) (w' : World) : Prop := e = .returned (.tuple #[]) ∧ WO b N o w' ∧ Kp b w w'
theorem WO.lt {b N : Nat} {o : ByteArray × Int} {w : World} (h : WO b N o w) : b < w.heap.size := by obtain ⟨l, h1, _⟩ := h; exact h1.lt
theorem WO.below {b N : Nat} {o : ByteArray × Int} {w w' : World} (h : WO b N o w) (hb : Below w.heap.size w w') : WO b N o w' := by
  obtain ⟨l, h1, h2⟩ := h; exact ⟨l, h1.below hb, h2⟩
theorem WO.mono {b N M : Nat} {o : ByteArray × Int} {w : World} (h : WO b N o w) (hN : N ≤ M) : WO b M o w := by
  obtain ⟨l, h1, h2, h3⟩ := h; exact ⟨l, h1, Nat.le_trans h2 (Nat.mul_le_mul_right _ hN), h3⟩
theorem WP.mono {b N M : Nat} {o : ByteArray × Int} {w w' : World} {e : Ending} (h : WP b N o w e w') (hN : N ≤ M) : WP b M o w e w' := ⟨h.1, h.2.1.mono hN, h.2.2⟩
/-! Small tests. -/
theorem isqos_any (n : Int) (w : World) : Calls Tryz.prog 78 #[.int .i64 n] w fun e w' => e = .returned (.bool (PK.isQ n)) ∧ w = w' := by
  have E : Hid (PK.isQ n = (decide (0 ≤ n) && decide (n ≤ 2))) := rfl
  generalize PK.isQ n = q at *
  by_cases h0 : 0 ≤ n
  · go_enter Tryz.func78, Tryz.ntmps78
    go_wp2
    go_ret
    exact ⟨by rw [E.out]; simp [h0], rfl⟩
  · go_enter Tryz.func78, Tryz.ntmps78
    go_wp2
    go_ret
    exact ⟨by rw [E.out]; simp; omega, rfl⟩
theorem ishand_any (n : Int) (w : World) : Calls Tryz.prog 84 #[.int .i64 n] w fun e w' => e = .returned (.bool (PK.isQ n)) ∧ w = w' := by
  have E : Hid (PK.isQ n = (decide (0 ≤ n) && decide (n ≤ 2))) := rfl
  generalize PK.isQ n = q at *
  by_cases h0 : 0 ≤ n
  · go_enter Tryz.func84, Tryz.ntmps84
    go_wp2
    go_ret
    exact ⟨by rw [E.out]; simp [h0], rfl⟩
  · go_enter Tryz.func84, Tryz.ntmps84
    go_wp2
    go_ret
    exact ⟨by rw [E.out]; simp; omega, rfl⟩
end Go.Proofs.YtemfcaaoobjgkaaGreatDoor
