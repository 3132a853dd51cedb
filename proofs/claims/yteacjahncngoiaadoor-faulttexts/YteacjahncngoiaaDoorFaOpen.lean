/- The laws' arguments, opened: a row of steps, a row of strings. -/
import Derived.Test.YteacjahncngoiaaDoorFaSteps
import Derived.Deep.Slices
import Derived.Deep.Strs
import Derived.ChangeOld
import Derived.OpenShut
namespace Go.Proofs.YteacjahncngoiaaDoor
open Go.RowKit Go.ChangeShapes Go.WideShapes Go.Deep FA

theorem cell_lt {w : World} {a : Addr} {v : Value} (h : w.cell? a = some v) : a.block < w.heap.size := by
  rcases Nat.lt_or_ge a.block w.heap.size with h' | h'
  · exact h'
  · exfalso
    have e : w.heap[a.block]? = none := Array.getElem?_eq_none h'
    simp [World.cell?, e] at h

section
variable {H : Type} {enc : TypeId × Value → H} {P : Program} {w : World} {base : Nat} {spare : Nat → Bool} {held : Bool}

theorem trod_below {t : TypeId} {v : Value} {d : DataW H} {ps : List MemPlace} (h : DataW.Trod enc P w base spare held t v d ps) : ∀ x ∈ ps, x.block < w.heap.size := by
  obtain ⟨n, hn⟩ := h
  exact DataW.trod_lt n t _ _ hn

/-- A row of structs of four fields of one cell each: at every place the four cells, and what each reads as. -/
theorem open_row4 {t e : TypeId} {f0 f1 f2 f3 : Field} {fuel : Nat} {A : Option Addr} {len cap : Nat} {x : DataW H × List MemPlace} (ht : P.underlying t = some (.slice e)) (he : P.underlying e = some (.struct #[f0, f1, f2, f3]))
    (hC : P.cellsOf e = 4) (ho : f0.offset = 0 ∧ f1.offset = 1 ∧ f2.offset = 2 ∧ f3.offset = 3) (hk : P.cellsOf f0.type = 1 ∧ P.cellsOf f1.type = 1 ∧ P.cellsOf f2.type = 1 ∧ P.cellsOf f3.type = 1)
    (h : DataW.trod enc P w base spare held fuel t [.slice A len cap] = some x) :
    len ≤ cap ∧ len ≤ maxLen ∧ ∀ i, i < len → ∃ (g o n : Nat) (c0 c1 c2 c3 : Value) (y0 y1 y2 y3 : DataW H × List MemPlace), A = some ⟨g, o, none⟩ ∧ g < w.heap.size ∧
      w.cell? ⟨g, o + i * 4, none⟩ = some c0 ∧ w.cell? ⟨g, o + i * 4 + 1, none⟩ = some c1 ∧ w.cell? ⟨g, o + i * 4 + 2, none⟩ = some c2 ∧ w.cell? ⟨g, o + i * 4 + 3, none⟩ = some c3 ∧
      DataW.trod enc P w base spare held n f0.type [c0] = some y0 ∧ DataW.trod enc P w base spare held n f1.type [c1] = some y1 ∧ DataW.trod enc P w base spare held n f2.type [c2] = some y2 ∧ DataW.trod enc P w base spare held n f3.type [c3] = some y3 := by
  rcases open_slice ht h with ⟨hcs, _⟩ | ⟨a, len', cap', m, n, D, Pl, hcs, hb, hl, hm, hmm, hx, hi⟩
  · have e1 : Value.slice A len cap = .slice none 0 0 := by simpa using hcs
    injection e1 with e1 e2 e3
    subst e2 e3
    exact ⟨Nat.le_refl _, by simp [maxLen], fun i hi => absurd hi (by omega)⟩
  · have e1 : Value.slice A len cap = .slice (some a) len' cap' := by simpa using hcs
    injection e1 with e1 e2 e3
    subst e1 e2 e3
    refine ⟨hl, by omega, fun i hlt => ?_⟩
    obtain ⟨cs, h1, h2⟩ := hi i (by rw [hmm]; split <;> omega)
    rw [hC] at h1
    obtain ⟨_, hlen, hat⟩ := World.cells?_some h1
    obtain ⟨ys, n', _, _, _, hyl, hf⟩ := DataW.trod_struct he h2
    match cs, hlen with
    | [c0, c1, c2, c3], _ =>
      match ys, hyl with
      | [y0, y1, y2, y3], _ =>
        have g0 := hf 0 f0 rfl
        have g1 := hf 1 f1 rfl
        have g2 := hf 2 f2 rfl
        have g3 := hf 3 f3 rfl
        rw [ho.1, hk.1] at g0
        rw [ho.2.1, hk.2.1] at g1
        rw [ho.2.2.1, hk.2.2.1] at g2
        rw [ho.2.2.2, hk.2.2.2] at g3
        have a0 := hat 0 (by omega)
        have a1 := hat 1 (by omega)
        have a2 := hat 2 (by omega)
        have a3 := hat 3 (by omega)
        obtain ⟨b, o, spot⟩ := a
        have hspot : spot = none := by
          obtain ⟨cs0, h10, _⟩ := hi 0 (by rw [hmm]; split <;> omega)
          rw [hC] at h10
          obtain ⟨_, hlen0, hat0⟩ := World.cells?_some h10
          have h00 := hat0 0 (by omega)
          rw [List.getElem?_eq_getElem (by omega)] at h00
          simpa [Addr.add] using World.cell?_spot h00
        subst hspot
        simp only [add_plain] at a0 a1 a2 a3
        exact ⟨b, o, n', c0, c1, c2, c3, y0, y1, y2, y3, rfl, cell_lt (a0.trans rfl), a0, a1, a2, a3, g0, g1, g2, g3⟩
end

section
variable {H : Type} {enc : TypeId × Value → H} {w : World} {base : Nat} {spare : Nat → Bool} {held : Bool}
instance : Inhabited St := ⟨⟨0, 0, ⟨#[]⟩, 0⟩⟩

set_option maxRecDepth 100000 in
theorem open_steps {r : Reach} {b0 : Nat} {v : Value} {d : DataW H} {ps : List MemPlace} (hv : Value.okWide Tryd.prog w r b0 22 v) (h : DataW.Trod enc Tryd.prog w base spare held 22 v d ps) :
    ∃ (A : Option Addr) (cap : Nat) (l : List St), v = .slice A l.length cap ∧ l.length ≤ maxLen ∧ Steps w A l ∧ l.length ≤ cap := by
  obtain ⟨A, len, cap, rfl⟩ := okWide_slice Tryd.underlying22 hv
  obtain ⟨fuel, hf⟩ := h
  obtain ⟨hc, hm, each⟩ := open_row4 Tryd.underlying22 Tryd.underlying60 (by kernel_rfl) ⟨rfl, rfl, rfl, rfl⟩ ⟨by kernel_rfl, by kernel_rfl, by kernel_rfl, by kernel_rfl⟩ hf
  have each' : ∀ i, i < len → ∃ x : St, ∃ g o, A = some ⟨g, o, none⟩ ∧ g < w.heap.size ∧
      w.cell? ⟨g, o + i * 4, none⟩ = some (.int .i64 x.what) ∧ w.cell? ⟨g, o + i * 4 + 1, none⟩ = some (.int .u8 x.code) ∧ w.cell? ⟨g, o + i * 4 + 2, none⟩ = some (.string x.whr) ∧ w.cell? ⟨g, o + i * 4 + 3, none⟩ = some (.int .i64 x.more) ∧
      (Lit.int .i64 x.what).wf = true ∧ x.code < 256 ∧ (Lit.int .i64 x.more).wf = true ∧ x.whr.size ≤ maxLen := fun i hi => by
    obtain ⟨g, o, n, c0, c1, c2, c3, y0, y1, y2, y3, hA, hg, k0, k1, k2, k3, t0, t1, t2, t3⟩ := each i hi
    obtain ⟨z0, e0, _, w0⟩ := DataW.trod_int Tryd.underlying3 t0
    obtain ⟨z1, e1, _, w1⟩ := DataW.trod_int Tryd.underlying5 t1
    obtain ⟨z2, e2, _, w2⟩ := DataW.trod_string Tryd.underlying9 t2
    obtain ⟨z3, e3, _, w3⟩ := DataW.trod_int Tryd.underlying3 t3
    simp only [List.cons.injEq, and_true] at e0 e1 e2 e3
    subst e0 e1 e2 e3
    have hb1 := bounds_u8 w1
    obtain ⟨c, rfl⟩ : ∃ c : Nat, z1 = c := ⟨z1.toNat, by omega⟩
    exact ⟨⟨z0, c, z2, z3⟩, g, o, hA, hg, k0, k1, k2, k3, w0, by simp only; omega, w3, w2⟩
  obtain ⟨X, hX⟩ := choose_lt each'
  refine ⟨A, cap, (List.range len).map X, by simp, by simpa using hm, fun i x hx => ?_, by simpa using hc⟩
  obtain ⟨hi, rfl⟩ : i < len ∧ x = X i := by
    have hi : i < len := by have := (List.getElem?_eq_some_iff.1 hx).1; simpa using this
    refine ⟨hi, ?_⟩
    have h2 : ((List.range len).map X)[i]? = some (X i) := by simp [hi]
    exact Option.some.inj (hx.symm.trans h2)
  exact hX i hi

/-- A row of strings, from an address on. -/
def Strs (w : World) (A : Option Addr) (l : List ByteArray) : Prop :=
  ∀ (i : Nat) s, l[i]? = some s → ∃ g o, A = some ⟨g, o, none⟩ ∧ g < w.heap.size ∧ w.cell? ⟨g, o + i, none⟩ = some (.string s) ∧ s.size ≤ maxLen

set_option maxRecDepth 100000 in
theorem open_strs {r : Reach} {b0 : Nat} {v : Value} {d : DataW H} {ps : List MemPlace} (hv : Value.okWide Tryd.prog w r b0 40 v) (h : DataW.Trod enc Tryd.prog w base spare held 40 v d ps) :
    ∃ (A : Option Addr) (cap : Nat) (l : List ByteArray), v = .slice A l.length cap ∧ l.length ≤ maxLen ∧ Strs w A l ∧ l.length ≤ cap := by
  obtain ⟨A, len, cap, rfl⟩ := okWide_slice Tryd.underlying40 hv
  obtain ⟨fuel, hf⟩ := h
  rcases Go.Deep.open_strs Tryd.underlying40 Tryd.underlying9 (by kernel_rfl) hf with ⟨hcs, _⟩ | ⟨a, len', cap', m, Sx, hcs, hb, hl, hm, hmm, hx, hi⟩
  · have e1 : Value.slice A len cap = .slice none 0 0 := by simpa [Value.cells] using hcs
    injection e1 with e1 e2 e3
    subst e1 e2 e3
    exact ⟨none, 0, [], rfl, by simp, fun i s hs => by simp at hs, by simp⟩
  · have e1 : Value.slice A len cap = .slice (some a) len' cap' := by simpa [Value.cells] using hcs
    injection e1 with e1 e2 e3
    subst e1 e2 e3
    have hlm : len ≤ m := by rw [hmm]; split <;> omega
    refine ⟨some a, cap, (List.range len).map Sx, by simp, by simp; omega, fun i s hs => ?_, by simpa using hl⟩
    have hlt : i < len := by have := (List.getElem?_eq_some_iff.1 hs).1; simpa using this
    have h2 : ((List.range len).map Sx)[i]? = some (Sx i) := by simp [hlt]
    obtain rfl := Option.some.inj (hs.symm.trans h2)
    obtain ⟨hc, hz⟩ := hi i (by omega)
    obtain ⟨b, o, spot⟩ := a
    have hspot : spot = none := by simpa [Addr.add] using World.cell?_spot (hi 0 (by omega)).1
    subst hspot
    rw [add_plain] at hc
    exact ⟨b, o, rfl, cell_lt hc, hc, hz⟩
end
end Go.Proofs.YteacjahncngoiaaDoor
