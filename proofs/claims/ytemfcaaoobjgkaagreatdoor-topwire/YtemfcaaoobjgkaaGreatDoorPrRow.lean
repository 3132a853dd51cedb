/- Rows of properties in memory. -/
import Derived.Test.YtemfcaaoobjgkaaGreatDoorPrKind
import Derived.Maps.AppendAt
import Derived.Deep.AppendLies
import Derived.Deep.Fields
namespace Go.Proofs.YtemfcaaoobjgkaaGreatDoor
open Go.RowKit

/-- A property as plain data. -/
structure Pr where
  id : Int
  n : Int
  s : ByteArray
  t : ByteArray
def Pr.cells (p : Pr) : List Value := [.int .i64 p.id, .int .i64 p.n, .string p.s, .string p.t]
def flatP (l : List Pr) : List Value := l.flatMap Pr.cells
theorem flatP_snoc (l : List Pr) (p : Pr) : flatP (l ++ [p]) = flatP l ++ [.int .i64 p.id, .int .i64 p.n, .string p.s, .string p.t] := by simp [flatP, Pr.cells]
theorem flatP_len (l : List Pr) : (flatP l).length = l.length * 4 := by
  induction l with
  | nil => rfl
  | cons a l ih => simp only [flatP, List.flatMap_cons, List.length_append] at ih ⊢; rw [ih]; simp [Pr.cells]; omega
theorem flatP_at : ∀ (l : List Pr) (i : Nat) (p : Pr), l[i]? = some p → (flatP l)[i * 4]? = some (.int .i64 p.id) ∧ (flatP l)[i * 4 + 1]? = some (.int .i64 p.n) ∧ (flatP l)[i * 4 + 2]? = some (.string p.s) ∧ (flatP l)[i * 4 + 3]? = some (.string p.t)
  | [], i, p, h => by simp at h
  | a :: l, 0, p, h => by simp at h; subst h; simp [flatP, Pr.cells]
  | a :: l, i + 1, p, h => by
    have ih := flatP_at l i p (by simpa using h)
    have e : ∀ j, (flatP (a :: l))[(i + 1) * 4 + j]? = (flatP l)[i * 4 + j]? := fun j => by
      rw [show (i + 1) * 4 + j = 4 + (i * 4 + j) by omega]
      show (Pr.cells a ++ flatP l)[4 + (i * 4 + j)]? = _
      rw [List.getElem?_append_right (by simp [Pr.cells])]
      congr 1
      simp [Pr.cells]
    exact ⟨(e 0).trans ih.1, (e 1).trans ih.2.1, (e 2).trans ih.2.2.1, (e 3).trans ih.2.2.2⟩

/-- A row of properties, from an address on. -/
def Props (w : World) (A : Option Addr) (l : List Pr) : Prop :=
  ∀ (i : Nat) p, l[i]? = some p → ∃ g o, A = some ⟨g, o, none⟩ ∧ g < w.heap.size ∧
    w.cell? ⟨g, o + i * 4, none⟩ = some (.int .i64 p.id) ∧ w.cell? ⟨g, o + i * 4 + 1, none⟩ = some (.int .i64 p.n) ∧ w.cell? ⟨g, o + i * 4 + 2, none⟩ = some (.string p.s) ∧ w.cell? ⟨g, o + i * 4 + 3, none⟩ = some (.string p.t)
theorem Props.below {w w' : World} {A : Option Addr} {l : List Pr} (h : Props w A l) (hb : Below w.heap.size w w') : Props w' A l := fun i p hp => by
  obtain ⟨g, o, hA, hg, h0, h1, h2, h3⟩ := h i p hp
  have := hb.size
  exact ⟨g, o, hA, by omega, (hb.cell (p := ⟨g, _, none⟩) hg).trans h0, (hb.cell (p := ⟨g, _, none⟩) hg).trans h1, (hb.cell (p := ⟨g, _, none⟩) hg).trans h2, (hb.cell (p := ⟨g, _, none⟩) hg).trans h3⟩
theorem Props.take {w : World} {A : Option Addr} {l : List Pr} (h : Props w A l) (k : Nat) : Props w A (l.take k) := fun i p hp => by
  rw [List.getElem?_take] at hp
  split at hp
  · exact h i p hp
  · cases hp
theorem add0 (g j : Nat) : (⟨g, 0, none⟩ : Addr).add j = ⟨g, j, none⟩ := by
  unfold Addr.add
  split <;> simp_all
theorem own_props {w : World} {B : Nat} {t : TypeId} {A : Option Addr} {n cap : Nat} {l : List Pr} (h : w.ownsRow B t 4 (.slice A n cap) n (flatP l)) : Props w A l := fun i p hp => by
  have hi := (List.getElem?_eq_some_iff.1 hp).1
  have hn : n = l.length := by have h1 := h.1; rw [flatP_len] at h1; omega
  obtain ⟨g, c, hv, hg, hg'⟩ := h.form (by omega)
  injection hv with hv _ _
  subst hv
  obtain ⟨l0, l1, l2, l3⟩ := flatP_at l i p hp
  have key : ∀ (j : Nat) v, (flatP l)[j]? = some v → w.cell? ⟨g, 0 + j, none⟩ = some v := fun j v hv => by
    rw [Nat.zero_add, ← add0]; exact h.cells (g := g) rfl j v hv
  exact ⟨g, 0, rfl, hg', key _ _ l0, key _ _ l1, key _ _ l2, key _ _ l3⟩
theorem own_below {B : Nat} {e : TypeId} {k : Nat} {v : Value} {n : Nat} {xs : List Value} {w w' : World} (h : w.ownsRow B e k v n xs) (hb : Below w.heap.size w w') : w'.ownsRow B e k v n xs :=
  h.kept (row := none) ⟨hb.os, hb.tape, hb.output, hb.size, fun i hi _ => hb.block i hi⟩ (by
    rcases h.2 with ⟨rfl, _⟩ | ⟨g, c, u, rfl, _⟩
    · exact .inl rfl
    · exact .inr (by simp [Value.ownBlock]))
theorem own_nil (w : World) (B : Nat) (e : TypeId) (k : Nat) : w.ownsRow B e k (.slice none 0 0) 0 [] := ⟨by simp, .inl ⟨rfl, rfl⟩⟩
theorem own_form {B : Nat} {e : TypeId} {k : Nat} {v : Value} {n : Nat} {xs : List Value} {w : World} (h : w.ownsRow B e k v n xs) : ∃ A cap, v = .slice A n cap := by
  rcases h.2 with ⟨rfl, rfl⟩ | ⟨g, c, u, rfl, _⟩
  · exact ⟨_, _, rfl⟩
  · exact ⟨_, _, rfl⟩
theorem own_cap {w : World} {N : Nat} {t : TypeId} {s : Nat} {A : Option Addr} {n cap : Nat} {l : List Value} (h : w.ownsRow N t s (.slice A n cap) n l) : n ≤ cap := by
  rcases h.2 with ⟨hx, hy⟩ | ⟨g, c, cur, hx, _, _, h3, h4, _⟩
  · omega
  · injection hx with _ _ hx; subst hx; exact h3
theorem rows_apart {w : World} {b1 b2 : Nat} {e1 e2 : TypeId} {s1 s2 : Nat} {v1 v2 : Value} {n1 n2 : Nat} {x1 x2 : List Value} (h1 : w.ownsRow b1 e1 s1 v1 n1 x1) (h2 : w.ownsRow b2 e2 s2 v2 n2 x2) (hne : e1 ≠ e2) : v1.ownBlock = none ∨ v1.ownBlock ≠ v2.ownBlock := by
  rcases h1.2 with ⟨rfl, _⟩ | ⟨g1, c1, u1, rfl, _, hg1, _⟩
  · exact .inl rfl
  · rcases h2.2 with ⟨rfl, _⟩ | ⟨g2, c2, u2, rfl, _, hg2, _⟩
    · exact .inr (by simp [Value.ownBlock])
    · refine .inr fun he => ?_
      have : g1 = g2 := by simpa [Value.ownBlock] using he
      subst this
      rw [hg1] at hg2
      injection hg2 with hg2
      injection hg2 with _ hg2
      exact hne hg2
theorem cell_heap {w : World} {b i : Nat} {cs : Array Value} {t : TypeId} (h : w.heap[b]? = some (.cells cs t (0, 0))) : w.cell? ⟨b, i, none⟩ = cs[i]? := by simp [World.cell?, h]
theorem frozen_heap {w : World} {b i : Nat} {cs : Array Value} {t : TypeId} (h : w.heap[b]? = some (.cells cs t (0, 0))) : w.frozen? ⟨b, i, none⟩ = false := by simp [World.frozen?, h]

/-- Where the first property of an identifier stands. -/
def ix (id : Int) (k : Nat) : List Pr → Int
  | [] => -1
  | p :: l => if (p.id == id) = true then (k : Int) else ix id (k + 1) l
/-- The first property of an identifier. -/
def fnd (id : Int) : List Pr → Option Pr
  | [] => none
  | p :: l => if (p.id == id) = true then some p else fnd id l
theorem ix_spec (id : Int) : ∀ (l : List Pr) (k : Nat), (ix id k l = -1 ∧ fnd id l = none) ∨ (∃ (j : Nat) (p : Pr), ix id k l = ((k + j : Nat) : Int) ∧ l[j]? = some p ∧ fnd id l = some p)
  | [], k => .inl ⟨rfl, rfl⟩
  | p :: l, k => by
    unfold ix fnd
    by_cases h : (p.id == id) = true
    · rw [if_pos h, if_pos h]; exact .inr ⟨0, p, by simp, by simp, rfl⟩
    · rw [if_neg h, if_neg h]
      rcases ix_spec id l (k + 1) with h1 | ⟨j, q, h1, h2, h3⟩
      · exact .inl h1
      · exact .inr ⟨j + 1, q, by rw [h1]; omega, by simpa using h2, h3⟩
theorem prop_drop {l : List Pr} {k : Nat} {p : Pr} (h : l[k]? = some p) : l.drop k = p :: l.drop (k + 1) := by
  obtain ⟨hk, he⟩ := List.getElem?_eq_some_iff.1 h
  rw [List.drop_eq_getElem_cons hk, he]
theorem ix_yes {id : Int} {l : List Pr} {k : Nat} {p : Pr} (h : l[k]? = some p) (he : (p.id == id) = true) : ix id k (l.drop k) = k := by rw [prop_drop h, ix, if_pos he]
theorem ix_no {id : Int} {l : List Pr} {k : Nat} {p : Pr} (h : l[k]? = some p) (he : (p.id == id) = false) : ix id k (l.drop k) = ix id (k + 1) (l.drop (k + 1)) := by rw [prop_drop h, ix, if_neg (by rw [he]; decide)]
theorem ix_end (id : Int) (l : List Pr) : ix id l.length (l.drop l.length) = -1 := by rw [List.drop_length]; rfl
theorem fnd_no {id : Int} {l : List Pr} {k : Nat} {p : Pr} (h : l[k]? = some p) (he : (p.id == id) = false) : fnd id (l.drop k) = fnd id (l.drop (k + 1)) := by rw [prop_drop h, fnd, if_neg (by rw [he]; decide)]
theorem fnd_yes {id : Int} {l : List Pr} {k : Nat} {p : Pr} (h : l[k]? = some p) (he : (p.id == id) = true) : fnd id (l.drop k) = some p := by rw [prop_drop h, fnd, if_pos he]
theorem fnd_end (id : Int) (l : List Pr) : fnd id (l.drop l.length) = none := by rw [List.drop_length]; rfl
end Go.Proofs.YtemfcaaoobjgkaaGreatDoor
