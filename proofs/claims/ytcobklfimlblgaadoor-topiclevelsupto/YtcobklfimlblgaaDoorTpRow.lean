/- Rows of texts in memory. -/
import Derived.Test.YtcobklfimlblgaaDoorPrApp
import Derived.Test.YtcobklfimlblgaaDoorTpPure
namespace Go.Proofs.YtcobklfimlblgaaDoor
open Go.RowKit

def bytesOf (l : List ByteArray) : Nat := (l.map ByteArray.size).sum
theorem bytes_take {l : List ByteArray} {k : Nat} {x : ByteArray} (h : l[k]? = some x) : bytesOf (l.take (k + 1)) = bytesOf (l.take k) + x.size := by
  rw [List.take_add_one, h]; simp [bytesOf]
theorem bytes_le (l : List ByteArray) : ∀ k, bytesOf (l.take k) ≤ bytesOf l := by
  induction l with
  | nil => simp
  | cons x l ih =>
    intro k
    cases k with
    | zero => simp [bytesOf]
    | succ k => have := ih k; simp [bytesOf] at this ⊢; omega
/-- A row of texts, wherever it lies. -/
def Texts (w : World) (A : Option Addr) (l : List ByteArray) : Prop := ∀ (i : Nat) x, l[i]? = some x → ∃ g o, A = some ⟨g, o, none⟩ ∧ g < w.heap.size ∧ w.cell? ⟨g, o + i, none⟩ = some (.string x)
theorem Texts.below {w w' : World} {A : Option Addr} {l : List ByteArray} (h : Texts w A l) (hb : Below w.heap.size w w') : Texts w' A l := fun i x hx => by
  obtain ⟨g, o, hA, hg, h0⟩ := h i x hx
  have := hb.size
  exact ⟨g, o, hA, by omega, (hb.cell (p := ⟨g, _, none⟩) hg).trans h0⟩
theorem Texts.take {w : World} {A : Option Addr} {l : List ByteArray} (h : Texts w A l) (k : Nat) : Texts w A (l.take k) := fun i x hx => by
  rw [List.getElem?_take] at hx
  split at hx
  · exact h i x hx
  · cases hx
/-- A row of the call's own is one. -/
theorem own_texts {w : World} {B n cap : Nat} {A : Option Addr} {l : List ByteArray} (h : w.ownsRow B 9 1 (.slice A n cap) n (l.map .string)) : Texts w A l := fun i x hx => by
  obtain ⟨h1, h2⟩ := h
  rcases h2 with ⟨_, h2⟩ | ⟨g, c, cur, hv, _, hh, _, _, _, ht⟩
  · subst h2
    have : l = [] := by simpa using h1
    subst this; simp at hx
  · injection hv with hA _ _
    refine ⟨g, 0, hA, lt_heap hh, ?_⟩
    rw [cell_heap hh, Nat.zero_add]
    have h3 : (l.map Value.string)[i]? = some (.string x) := by rw [List.getElem?_map, hx]; rfl
    rw [← ht, List.getElem?_take] at h3
    split at h3
    · simpa using h3
    · cases h3
/-- The block that a call made for texts. -/
theorem own_made (w : World) (l : List ByteArray) (hl : l.length ≤ maxLen) : (w.alloc (.cells (l.map Value.string).toArray 9)).ownsRow w.heap.size 9 1 (.slice (some ⟨w.heap.size, 0, none⟩) l.length l.length) l.length (l.map .string) :=
  ⟨by simp, .inr ⟨w.heap.size, l.length, _, rfl, Nat.le_refl _, heap_alloc_new w _, Nat.le_refl _, hl, by simp, by simp [List.take_of_length_le]⟩⟩
theorem st_base' {w : World} {B C : Nat} {e : TypeId} {k : Nat} {v : Value} {n : Nat} {xs : List Value} (h : w.ownsRow B e k v n xs) (hC : C ≤ B) : w.ownsRow C e k v n xs := by
  refine ⟨h.1, ?_⟩
  rcases h.2 with hn | ⟨g, cap, cur, hv, hb, rest⟩
  · exact .inl hn
  · exact .inr ⟨g, cap, cur, hv, by omega, rest⟩
end Go.Proofs.YtcobklfimlblgaaDoor
