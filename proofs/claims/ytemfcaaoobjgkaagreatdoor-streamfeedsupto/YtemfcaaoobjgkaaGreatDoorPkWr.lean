/- The writer of a packet: a strings.Builder and a code in one struct. -/
import Derived.Test.YtemfcaaoobjgkaaGreatDoorPrBld
import Derived.Lib.OthersKept
import Derived.Lib.AppendStr
import Derived.Lib.UnsafeStr
import Derived.Lib.Builder
import Derived.Deep.DeepAppendWide
import Derived.Room.AppendFits
import Derived.Laws.Externs
import Derived.WalkKit
import Derived.KernelRfl
namespace Go.Proofs.YtemfcaaoobjgkaaGreatDoor
open Go.RowKit

/-- The writer in block b: the bytes l so far, the code c; 'p': whether its builder was used. -/
def WrAt (b : Nat) (p : Value) (l : List UInt8) (c : Int) (w : World) : Prop :=
  ∃ v, w.heap[b]? = some (.cells #[p, v, .int .u8 c] 87 (0, 0)) ∧ w.ownsRow b 5 1 v l.length (Lib.byteCells l) ∧ v.ownBlock ≠ some b
def Wr (b : Nat) (l : List UInt8) (c : Int) (w : World) : Prop := WrAt b (.pointer none) l c w ∨ WrAt b (.pointer (some ⟨b, 0, none⟩)) l c w
/-- All that isn't the writer's stands. -/
def Kp (b : Nat) (w w' : World) : Prop := Below b w w' ∧ Lib.OthersKept 5 (some b) w w'
theorem Kp.refl (b : Nat) (w : World) : Kp b w w := ⟨Below.refl _ _, Lib.OthersKept.refl _ _ _⟩
theorem Kp.trans {b : Nat} {w1 w2 w3 : World} (h : Kp b w1 w2) (k : Kp b w2 w3) : Kp b w1 w3 := ⟨h.1.trans k.1, h.2.trans k.2⟩
theorem Kp.of_below {b : Nat} {w w' : World} (hb : b ≤ w.heap.size) (h : Below w.heap.size w w') : Kp b w w' :=
  ⟨h.mono hb, fun k _ hk _ _ => (h.block k (lt_heap hk)).trans hk⟩
theorem Kp.size {b : Nat} {w w' : World} (h : Kp b w w') : w.heap.size ≤ w'.heap.size := h.1.size
theorem Kp.block {b k : Nat} {w w' : World} (h : Kp b w w') {cs : Array Value} {t : TypeId} {fr : Nat × Nat} (hk : w.heap[k]? = some (.cells cs t fr)) (hne : k ≠ b) (ht : t ≠ 5) : w'.heap[k]? = some (.cells cs t fr) :=
  h.2 k _ hk (fun e => hne (by injection e)) (fun c fz e => ht (by injection e))
theorem WrAt.lt {b : Nat} {p : Value} {l : List UInt8} {c : Int} {w : World} (h : WrAt b p l c w) : b < w.heap.size := by
  obtain ⟨v, h1, _⟩ := h; exact lt_heap h1
theorem Wr.lt {b : Nat} {l : List UInt8} {c : Int} {w : World} (h : Wr b l c w) : b < w.heap.size := by
  rcases h with h | h <;> exact h.lt
theorem WrAt.below {b : Nat} {p : Value} {l : List UInt8} {c : Int} {w w' : World} (h : WrAt b p l c w) (hb : Below w.heap.size w w') : WrAt b p l c w' := by
  obtain ⟨v, h1, h2, h3⟩ := h
  exact ⟨v, (hb.block b (lt_heap h1)).trans h1, own_below h2 hb, h3⟩
theorem Wr.below {b : Nat} {l : List UInt8} {c : Int} {w w' : World} (h : Wr b l c w) (hb : Below w.heap.size w w') : Wr b l c w' := by
  rcases h with h | h
  · exact .inl (h.below hb)
  · exact .inr (h.below hb)
theorem Wr.new (w : World) : Wr w.heap.size [] 0 (w.alloc (.cells #[.pointer none, .slice none 0 0, .int .u8 0] 87)) :=
  .inl ⟨_, heap_alloc_new w _, own_nil _ _ _ _, by simp [Value.ownBlock]⟩
theorem set_block {w : World} {b : Nat} {cs cs' : Array Value} {t : TypeId} {j : Nat} {u : Value} (h : w.heap[b]? = some (.cells cs t (0, 0))) (hc : cs.set! j u = cs') : (w.setCell ⟨b, j, none⟩ u).heap[b]? = some (.cells cs' t (0, 0)) := by
  subst hc
  simp [World.setCell, Array.getElem?_modify, h]
theorem own_set {w : World} {b j : Nat} {B : Nat} {e : TypeId} {k : Nat} {v u : Value} {n : Nat} {xs : List Value} (h : w.ownsRow B e k v n xs) (hne : v.ownBlock ≠ some b) : (w.setCell ⟨b, j, none⟩ u).ownsRow B e k v n xs :=
  h.kept (row := some b) ⟨rfl, rfl, rfl, by simp [World.setCell], fun i _ hi => Below.heap_setCell _ _ _ _ (fun e => hi (by simp [e]))⟩ (.inr hne)
/-- A store into the writer's own block. -/
theorem Kp.setCell {b : Nat} {w w' : World} (h : Kp b w w') (j : Nat) (u : Value) : Kp b w (w'.setCell ⟨b, j, none⟩ u) :=
  ⟨h.1.setCell (p := ⟨b, j, none⟩) (Nat.le_refl _) u, h.2.setCell ⟨b, j, none⟩ rfl u⟩

theorem bldInfo : ∃ j, Tryz.prog.info? 66 = some j ∧ j.size = 2 := by
  have h : (Tryz.prog.info? 66).map (·.size) = some 2 := by kernel_rfl
  exact Option.map_eq_some_iff.1 h
theorem byteInfo : (Tryz.prog.info? 5).map (fun i => (i.zero, i.size, i.bytes)) = some (some (.int .u8 0), 1, 1) := by kernel_rfl
theorem own_row {w : World} {B : Nat} {e : TypeId} {k : Nat} {v : Value} {n : Nat} {xs : List Value} (h : w.ownsRow B e k v n xs) : ∀ g, v.ownBlock = some g → ∃ c fz, w.heap[g]? = some (.cells c e fz) := by
  intro g hg
  rcases h.2 with ⟨rfl, _⟩ | ⟨g', c, u, rfl, _, hh, _⟩
  · cases hg
  · simp only [Value.ownBlock, Option.some.injEq] at hg
    subst hg
    exact ⟨_, _, hh⟩

theorem us_none (W : World) (q : Option Addr) : (Builtin.unsafeString_ #[94, 3] 9 #[.pointer q, .int .i64 0]).run Tryz.prog W = .ok (.string ⟨#[]⟩) W := Lib.run_unsafeString_none W _ _ _ q
end Go.Proofs.YtemfcaaoobjgkaaGreatDoor
