/- The law's argument, opened: a row of properties; how long their texts can be. -/
import Derived.Test.YtmommbhhffhdgaaDoorPrRow
import Derived.Deep.Slices
import Derived.ChangeOld
import Derived.OpenShut
import Derived.SizedLaws
import Derived.Lib.Strings
namespace Go.Proofs.YtmommbhhffhdgaaDoor
open Go.RowKit Go.ChangeShapes Go.WideShapes Go.Deep

theorem cell_lt {w : World} {a : Addr} {v : Value} (h : w.cell? a = some v) : a.block < w.heap.size := by
  rcases Nat.lt_or_ge a.block w.heap.size with h' | h'
  · exact h'
  · exfalso
    have e : w.heap[a.block]? = none := Array.getElem?_eq_none h'
    simp [World.cell?, e] at h

section
variable {H : Type} {enc : TypeId × Value → H} {P : Program} {w : World} {base : Nat} {spare : Nat → Bool} {held : Bool}

theorem trod_below {t : TypeId} {v : Value} {d : DataW H} {ps : List MemPlace} (h : DataW.Trod enc P w base spare held t v d ps) : ∀ x ∈ ps, x.block < w.heap.size := by
  obtain ⟨n, hn⟩ := h
  exact DataW.trod_lt n t _ _ hn
theorem weights_all {e : TypeId} : ∀ {l : List (DataW H)} {d : DataW H}, d ∈ l → ∀ n ∈ d.weights P e, n ∈ DataW.weightsAll P e l
  | x :: l, d, hd, n, hn => by
    simp only [DataW.weightsAll, List.mem_append]
    rcases List.mem_cons.1 hd with rfl | hd
    · exact .inl hn
    · exact .inr (weights_all hd n hn)

/-- A row of structs of four fields of one cell each: at every place the four cells, and what each reads as; what these weigh the row weighs too. -/
theorem open_row4 {t e : TypeId} {f0 f1 f2 f3 : Field} {fuel : Nat} {A : Option Addr} {len cap : Nat} {x : DataW H × List MemPlace} (ht : P.underlying t = some (.slice e)) (he : P.underlying e = some (.struct #[f0, f1, f2, f3]))
    (hC : P.cellsOf e = 4) (ho : f0.offset = 0 ∧ f1.offset = 1 ∧ f2.offset = 2 ∧ f3.offset = 3) (hk : P.cellsOf f0.type = 1 ∧ P.cellsOf f1.type = 1 ∧ P.cellsOf f2.type = 1 ∧ P.cellsOf f3.type = 1)
    (h : DataW.trod enc P w base spare held fuel t [.slice A len cap] = some x) :
    len ≤ cap ∧ len ≤ maxLen ∧ ∀ i, i < len → ∃ (g o n : Nat) (c0 c1 c2 c3 : Value) (y0 y1 y2 y3 : DataW H × List MemPlace), A = some ⟨g, o, none⟩ ∧ g < w.heap.size ∧
      w.cell? ⟨g, o + i * 4, none⟩ = some c0 ∧ w.cell? ⟨g, o + i * 4 + 1, none⟩ = some c1 ∧ w.cell? ⟨g, o + i * 4 + 2, none⟩ = some c2 ∧ w.cell? ⟨g, o + i * 4 + 3, none⟩ = some c3 ∧
      DataW.trod enc P w base spare held n f0.type [c0] = some y0 ∧ DataW.trod enc P w base spare held n f1.type [c1] = some y1 ∧ DataW.trod enc P w base spare held n f2.type [c2] = some y2 ∧ DataW.trod enc P w base spare held n f3.type [c3] = some y3 ∧
      (∀ n ∈ y2.1.weights P f2.type, n ∈ x.1.weights P t) ∧ (∀ n ∈ y3.1.weights P f3.type, n ∈ x.1.weights P t) := by
  rcases open_slice ht h with ⟨hcs, _⟩ | ⟨a, len', cap', m, n, D, Pl, hcs, hb, hl, hm, hmm, hx, hi⟩
  · have e1 : Value.slice A len cap = .slice none 0 0 := by simpa using hcs
    injection e1 with e1 e2 e3
    subst e2 e3
    exact ⟨Nat.le_refl _, by simp [maxLen], fun i hi => absurd hi (by omega)⟩
  · have e1 : Value.slice A len cap = .slice (some a) len' cap' := by simpa using hcs
    injection e1 with e1 e2 e3
    subst e1 e2 e3
    refine ⟨hl, by omega, fun i hlt => ?_⟩
    obtain ⟨cs, h1, h2⟩ := hi i (by rw [hmm]; split <;> omega)
    rw [hC] at h1
    obtain ⟨_, hlen, hat⟩ := World.cells?_some h1
    obtain ⟨ys, n', _, hD, _, hyl, hf⟩ := DataW.trod_struct he h2
    match cs, hlen with
    | [c0, c1, c2, c3], _ =>
      match ys, hyl with
      | [y0, y1, y2, y3], _ =>
        have g0 := hf 0 f0 rfl
        have g1 := hf 1 f1 rfl
        have g2 := hf 2 f2 rfl
        have g3 := hf 3 f3 rfl
        rw [ho.1, hk.1] at g0
        rw [ho.2.1, hk.2.1] at g1
        rw [ho.2.2.1, hk.2.2.1] at g2
        rw [ho.2.2.2, hk.2.2.2] at g3
        have a0 := hat 0 (by omega)
        have a1 := hat 1 (by omega)
        have a2 := hat 2 (by omega)
        have a3 := hat 3 (by omega)
        obtain ⟨b, o, spot⟩ := a
        have hspot : spot = none := by
          obtain ⟨cs0, h10, _⟩ := hi 0 (by rw [hmm]; split <;> omega)
          rw [hC] at h10
          obtain ⟨_, hlen0, hat0⟩ := World.cells?_some h10
          have h00 := hat0 0 (by omega)
          rw [List.getElem?_eq_getElem (by omega)] at h00
          simpa [Addr.add] using World.cell?_spot h00
        subst hspot
        simp only [add_plain] at a0 a1 a2 a3
        have hD1 : D i = .agg [y0.1, y1.1, y2.1, y3.1] := by injection hD
        have hw : ∀ n ∈ (D i).weights P e, n ∈ x.1.weights P t := fun n hn => by
          rw [hx]
          simp only [DataW.weights, ht, List.mem_cons, List.mem_append]
          exact .inr (.inl (weights_all (List.mem_map.2 ⟨i, by simpa using hlt, rfl⟩) n hn))
        rw [hD1] at hw
        simp only [DataW.weights, he, List.map_cons, List.map_nil, DataW.weightsEach, List.mem_append] at hw
        exact ⟨b, o, n', c0, c1, c2, c3, y0, y1, y2, y3, rfl, cell_lt (a0.trans rfl), a0, a1, a2, a3, g0, g1, g2, g3, fun n hn => hw n (.inr (.inr (.inl hn))), fun n hn => hw n (.inr (.inr (.inr (.inl hn))))⟩
end

section
variable {H : Type} {enc : TypeId × Value → H} {w : World} {base : Nat} {spare : Nat → Bool} {held : Bool}
instance : Inhabited Pr := ⟨⟨0, 0, ⟨#[]⟩, ⟨#[]⟩⟩⟩

set_option maxRecDepth 100000 in
theorem open_props {r : Reach} {b0 : Nat} {v : Value} {d : DataW H} {ps : List MemPlace} (hv : Value.okWide Tryd.prog w r b0 22 v) (h : DataW.Trod enc Tryd.prog w base spare held 22 v d ps) (hz : ∀ n ∈ d.weights Tryd.prog 22, n ≤ reachBytes) :
    ∃ (A : Option Addr) (cap : Nat) (l : List Pr), v = .slice A l.length cap ∧ l.length ≤ maxLen ∧ Props w A l ∧ l.length ≤ cap ∧ (∀ p ∈ l, p.s.size ≤ 140737488351232 ∧ p.t.size ≤ 140737488351232) ∧ (∀ p ∈ l, (Lit.int .i64 p.id).wf = true ∧ (Lit.int .i64 p.n).wf = true) := by
  obtain ⟨A, len, cap, rfl⟩ := okWide_slice Tryd.underlying22 hv
  obtain ⟨fuel, hf⟩ := h
  obtain ⟨hc, hm, each⟩ := open_row4 Tryd.underlying22 Tryd.underlying46 (by kernel_rfl) ⟨rfl, rfl, rfl, rfl⟩ ⟨by kernel_rfl, by kernel_rfl, by kernel_rfl, by kernel_rfl⟩ hf
  have each' : ∀ i, i < len → ∃ x : Pr, (∃ g o, A = some ⟨g, o, none⟩ ∧ g < w.heap.size ∧
      w.cell? ⟨g, o + i * 4, none⟩ = some (.int .i64 x.id) ∧ w.cell? ⟨g, o + i * 4 + 1, none⟩ = some (.int .i64 x.n) ∧ w.cell? ⟨g, o + i * 4 + 2, none⟩ = some (.string x.s) ∧ w.cell? ⟨g, o + i * 4 + 3, none⟩ = some (.string x.t)) ∧
      (x.s.size ≤ 140737488351232 ∧ x.t.size ≤ 140737488351232) ∧ (Lit.int .i64 x.id).wf = true ∧ (Lit.int .i64 x.n).wf = true := fun i hi => by
    obtain ⟨g, o, n, c0, c1, c2, c3, y0, y1, y2, y3, hA, hg, k0, k1, k2, k3, t0, t1, t2, t3, w2w, w3w⟩ := each i hi
    obtain ⟨z0, e0, _, w0⟩ := DataW.trod_int Tryd.underlying3 t0
    obtain ⟨z1, e1, _, w1⟩ := DataW.trod_int Tryd.underlying3 t1
    obtain ⟨z2, e2, d2, w2⟩ := DataW.trod_string Tryd.underlying9 t2
    obtain ⟨z3, e3, d3, w3⟩ := DataW.trod_string Tryd.underlying9 t3
    simp only [List.cons.injEq, and_true] at e0 e1 e2 e3
    subst e0 e1 e2 e3
    have hs2 : z2.size ≤ reachBytes := by
      have := hz z2.data.toList.length (w2w _ (by rw [d2]; simp [DataW.weights]))
      rwa [← Lib.size_eq] at this
    have hs3 : z3.size ≤ reachBytes := by
      have := hz z3.data.toList.length (w3w _ (by rw [d3]; simp [DataW.weights]))
      rwa [← Lib.size_eq] at this
    exact ⟨⟨z0, z1, z2, z3⟩, ⟨g, o, hA, hg, k0, k1, k2, k3⟩, ⟨hs2, hs3⟩, w0, w1⟩
  obtain ⟨X, hX⟩ := choose_lt each'
  have hmem : ∀ p ∈ (List.range len).map X, ∃ i, i < len ∧ p = X i := fun p hp => by
    obtain ⟨i, hi, rfl⟩ := List.mem_map.1 hp
    exact ⟨i, by simpa using hi, rfl⟩
  refine ⟨A, cap, (List.range len).map X, by simp, by simpa using hm, fun i x hx => ?_, by simpa using hc, fun p hp => ?_, fun p hp => ?_⟩
  · obtain ⟨hi, rfl⟩ : i < len ∧ x = X i := by
      have hi : i < len := by have := (List.getElem?_eq_some_iff.1 hx).1; simpa using this
      refine ⟨hi, ?_⟩
      have h2 : ((List.range len).map X)[i]? = some (X i) := by simp [hi]
      exact Option.some.inj (hx.symm.trans h2)
    exact (hX i hi).1
  · obtain ⟨i, hi, rfl⟩ := hmem p hp
    exact (hX i hi).2.1
  · obtain ⟨i, hi, rfl⟩ := hmem p hp
    exact (hX i hi).2.2
end
end Go.Proofs.YtmommbhhffhdgaaDoor
